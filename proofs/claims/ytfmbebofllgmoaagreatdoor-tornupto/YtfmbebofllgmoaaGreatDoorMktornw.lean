/-
  PROVED HERE: rerunkeep.Torn answers true of everything in memory.
-/
import Derived.Test.YtfmbebofllgmoaaGreatDoorMkept
namespace Go.Proofs.YtfmbebofllgmoaaGreatDoor
open Go.RowKit
attribute [local go_sem ↓] Go.wp_at_zero Go.wp_at_succ

set_option maxHeartbeats 1000000 in
set_option maxRecDepth 20000 in
theorem torn_any {w : World} (htab : TabIn w) {v q0 q1 q2 q3 : Value} {N : Nat} {ln : Nat → Nat} {f : Nat → Nat → O3} (hH : HandsIn w v N ln f) (hin : ∀ i j, i < N → j < ln i → In3 (f i j)) {raw lp ll : List Int} {rb : List Br} {P : Nat → Prop} (hP : ∀ q, P q → q < w.heap.size) (h0 : IntsIn w q0 raw P) (h1 : ValsIn w q1 (rb.map (·.1)) P) (hrb : ∀ b, b ∈ rb → IntsIn w b.1 b.2 P) (h2 : IntsIn w q2 lp P) (h3 : IntsIn w q3 ll P) (hr0 : rng raw) (hr1 : ∀ b, b ∈ rb → rng b.2) (n23 : lp.length + ll.length ≤ 1900000) (fuel : Int) (hfu : inR fuel) (cut : Int) (hcu : inR cut) :
    Calls Tryz.prog 8 #[v, .agg #[q0, q1, q2, q3], .int .i64 fuel, .int .i64 cut] w fun e w' => e = .returned (.bool true) ∧ Fr (fun _ => False) w w' (fun _ => False) := by
  obtain ⟨ha, hl, hc, rfl⟩ : ∃ a n c, v = .slice a n c := by obtain ⟨a, c, hv, _⟩ := hH; exact ⟨a, _, c, hv⟩
  have hfa : Fr (fun _ => False) w (w.alloc (.cells #[q0, q1, q2, q3] 29)) (fun _ => False) := (Fr.refl _ _).alloc _
  have hba := hfa.below (B := w.heap.size) (fun k hk => hk.elim) (Nat.le_refl _)
  have H13 := hide (works_any (w.alloc (.cells #[q0, q1, q2, q3] 29)) (tabIn_below hba (tabIn_lt htab) htab))
  have h14 : ∀ W : World, Fr (fun _ => False) w W (fun _ => False) → _ := fun W hf => kept_any htab hH hin hP h0 h1 hrb h2 h3 hr0 hr1 n23 fuel hfu hf
  have H14 := hide h14
  have HFA := hide hfa
  have HTAB := hide htab
  have hb29 := heap_alloc_new w (.cells #[q0, q1, q2, q3] 29)
  have HB29 := hide hb29
  have hzz : w.heap.size < (w.alloc (.cells #[q0, q1, q2, q3] 29)).heap.size := by simp
  have HZZ := hide hzz
  have e35 := eq35
  clear h14 hfa htab hH hb29 hba hzz h0 h1 hrb h2 h3 hr0 hr1 hin
  go_enter Tryz.func8, Tryz.ntmps8
  go_wp2_with fail
  go_at_call 13
  refine (unhide H13).mono ?_
  rintro e w1 ⟨rfl, f1⟩
  have hf1 := (unhide HFA).trans f1
  have hc29 := fun j => cell_of_row w1 w.heap.size j _ 29 (0, 0) ((f1.same w.heap.size (unhide HZZ) (fun h => h)).trans (unhide HB29))
  have HF1 := hide hf1
  clear hf1 f1
  go_wp2_with fail
  go_at_call 14
  refine (unhide H14 _ (unhide HF1)).mono ?_
  rintro e w2 ⟨s1a, n1, s1c, s2a, n2, s2c, s3a, n3, s3c, ta, tc, p, fu, lg, s, xs, rfl, hk⟩
  have HK := hide hk
  have hz2 : w2.heap.size < (w2.alloc (.cells #[.slice s1a n1 s1c, .slice s2a n2 s2c, .slice s3a n3 s3c, .int .i64 fu, .string lg, .slice ta s.trace.length tc, .int .i64 s.fin, .int .i64 (s.reg 0), .int .i64 (s.reg 1), .int .i64 (s.reg 2), .int .i64 (s.reg 3), .int .i64 s.clock, .int .i64 s.heard, .bool true] 39)).heap.size := by simp
  have hr39 := heap_alloc_new w2 (.cells #[.slice s1a n1 s1c, .slice s2a n2 s2c, .slice s3a n3 s3c, .int .i64 fu, .string lg, .slice ta s.trace.length tc, .int .i64 s.fin, .int .i64 (s.reg 0), .int .i64 (s.reg 1), .int .i64 (s.reg 2), .int .i64 (s.reg 3), .int .i64 s.clock, .int .i64 s.heard, .bool true] 39)
  have hf3 : Fr (fun _ => False) w2 (w2.alloc (.cells #[.slice s1a n1 s1c, .slice s2a n2 s2c, .slice s3a n3 s3c, .int .i64 fu, .string lg, .slice ta s.trace.length tc, .int .i64 s.fin, .int .i64 (s.reg 0), .int .i64 (s.reg 1), .int .i64 (s.reg 2), .int .i64 (s.reg 3), .int .i64 s.clock, .int .i64 s.heard, .bool true] 39)) (fun _ => False) := (Fr.refl _ _).alloc _
  have hkeep : ∀ W : World, Fr (fun _ => False) (w2.alloc (.cells #[.slice s1a n1 s1c, .slice s2a n2 s2c, .slice s3a n3 s3c, .int .i64 fu, .string lg, .slice ta s.trace.length tc, .int .i64 s.fin, .int .i64 (s.reg 0), .int .i64 (s.reg 1), .int .i64 (s.reg 2), .int .i64 (s.reg 3), .int .i64 s.clock, .int .i64 s.heard, .bool true] 39)) W (fun _ => False) → W.heap[w2.heap.size]? = some (.cells #[.slice s1a n1 s1c, .slice s2a n2 s2c, .slice s3a n3 s3c, .int .i64 fu, .string lg, .slice ta s.trace.length tc, .int .i64 s.fin, .int .i64 (s.reg 0), .int .i64 (s.reg 1), .int .i64 (s.reg 2), .int .i64 (s.reg 3), .int .i64 s.clock, .int .i64 s.heard, .bool true] 39) := fun W hf => (hf.same _ hz2 (fun h => h)).trans hr39
  have HKEEP := hide hkeep
  have HF3 := hide hf3
  clear hr39 hkeep hf3 hc29 H13 H14 HB29 HZZ HFA
  obtain ⟨n, hn, hnl⟩ : ∃ n : Nat, pickI cut ((lg.size : Int) + 1) = n ∧ n ≤ lg.size := by
    have := pickI_range cut ((lg.size : Int) + 1) (by omega)
    exact ⟨(pickI cut ((lg.size : Int) + 1)).toNat, by omega, by omega⟩
  have h18 : ∀ W : World, Calls Tryz.prog 18 #[.int .i64 cut, .int .i64 ((lg.size : Int) + 1)] W fun e w' => e = .returned (.int .i64 (n : Int)) ∧ w' = W := fun W => by
    have := kpick_big cut ((lg.size : Int) + 1) (by omega) (by have := hk.size; omega) hcu W
    rw [hn] at this
    exact this
  have h16 : ∀ W : World, Calls Tryz.prog 16 #[.string lg] W fun e w' => ∃ a c, ∃ ps : List (Inp × Value), e = .returned (.tuple #[.slice a ps.length c, .int .i64 lg.size, .int .i64 1]) ∧ InsAt w' W.heap.size (.slice a ps.length c) ps ∧ ps.map (·.1) = alls xs s.fin.toNat ∧ Fr (fun _ => False) W w' (fun _ => False) := fun W => by
    have hk := unhide HK
    refine (read_ps lg hk.size W).mono ?_
    rintro e w' ⟨a, c, ps, rfl, hi, hp, hf⟩
    rw [hk.rd] at hp ⊢
    exact ⟨a, c, ps, rfl, hi, hp, hf⟩
  have H16 := hide h16
  have H18 := hide h18
  have hwr : IntKind.i64.wrap ((lg.size : Int) + 1) = (lg.size : Int) + 1 := by rw [IntKind.wrap_i64]; have := hk.size; omega
  have hn0 : (0 : Int) ≤ (n : Int) := by omega
  have hnl' : (n : Int) ≤ (lg.size : Int) := by omega
  clear h16 h18 hk hn hcu
  go_wp2_with fail
  go_at_call 16
  refine (unhide H16 _).mono ?_
  rintro e w4 ⟨aa, ac, psA, rfl, insA, hpsA, f4⟩
  have c4 := fun j => cell_of_row w4 _ j _ 39 (0, 0) (unhide HKEEP _ f4)
  have INSA := hide insA
  have HPSA := hide hpsA
  have F4 := hide f4
  clear insA hpsA f4 H16
  go_wp2_with fail
  go_at_call 18
  refine (unhide H18 _).mono ?_
  rintro e w5 ⟨rfl, hw5⟩
  rw [hw5]
  clear H18 hw5 w5
  go_wp2_with fail
  obtain ⟨t, ht⟩ : ∃ t, t = lg.extract 0 n := ⟨_, rfl⟩
  rw [← ht]
  have hbt : bs t = (bs lg).take n := by rw [ht, bs_sub]; simp
  clear ht
  have htz : t.size ≤ 1000000000 := by
    have e : t.size = (bs t).length := by simp [bs]
    have e2 : (bs lg).length = lg.size := by simp [bs]
    rw [e, hbt, List.length_take, e2]; have := (unhide HK).size; omega
  have hcut := (unhide HK).cut n hnl t hbt
  clear hbt
  by_cases h3 : n < 3
  · have hr := hcut.1 h3
    have h3' : (n : Int) < 3 := by omega
    have h16 : ∀ W : World, Calls Tryz.prog 16 #[.string t] W fun e w' => ∃ a c, e = .returned (.tuple #[.slice a 0 c, .int .i64 0, .int .i64 2]) ∧ InsAt w' W.heap.size (.slice a 0 c) [] ∧ Fr (fun _ => False) W w' (fun _ => False) := fun W => by
      refine (read_ps t htz W).mono ?_
      rintro e w' ⟨a, c, ps, rfl, hi, hp, hf⟩
      rw [hr] at hp ⊢
      have hp' : ps = [] := List.map_eq_nil_iff.1 hp
      subst hp'
      exact ⟨a, c, rfl, hi, hf⟩
    have h15 : ∀ W : World, Fr (fun _ => False) (w2.alloc (.cells #[.slice s1a n1 s1c, .slice s2a n2 s2c, .slice s3a n3 s3c, .int .i64 fu, .string lg, .slice ta s.trace.length tc, .int .i64 s.fin, .int .i64 (s.reg 0), .int .i64 (s.reg 1), .int .i64 (s.reg 2), .int .i64 (s.reg 3), .int .i64 s.clock, .int .i64 s.heard, .bool true] 39)) W (fun _ => False) → Calls Tryz.prog 15 #[.agg #[.slice s1a n1 s1c, .slice s2a n2 s2c, .slice s3a n3 s3c], .string t, .int .i64 fu] W fun e w' => e = .returned (.tuple #[.slice none 0 0, .agg #[.int .i64 0, .int .i64 0, .int .i64 0, .int .i64 0, .int .i64 0, .int .i64 0, .int .i64 0], .int .i64 5]) ∧ Fr (fun _ => False) W w' (fun _ => False) := fun W hf => by
      have hk := unhide HK
      refine (hk.replay (unhide HTAB) ((unhide HF3).trans hf) t htz (by rw [hr]; exact Nat.zero_le _)).mono ?_
      rintro e w' ⟨hf, ⟨_, h1⟩ | ⟨h0, _⟩⟩
      · exact ⟨h1, hf⟩
      · rw [hr] at h0; exact absurd rfl h0
    have H16 := hide h16
    have H15 := hide h15
    clear h16 h15 hcut hr
    go_at_call 16
    refine (unhide H16 _).mono ?_
    rintro e w5 ⟨ba, bc, rfl, insB, f5⟩
    have f45 := (unhide F4).trans f5
    have c5 := fun j => cell_of_row w5 _ j _ 39 (0, 0) (unhide HKEEP _ f45)
    have h19 := heads_any insB ((unhide INSA).fr f5) (List.nil_prefix) (by simp) (fun p hp => absurd hp (by simp))
    rw [show ((([] : List (Inp × Value)).length : Nat) : Int) = 0 from rfl] at h19
    have H19 := hide h19
    have F45 := hide f45
    clear insB f5 f45 h19 H16 c4
    go_wp2_with fail
    go_at_call 19
    refine (unhide H19).mono ?_
    rintro e w6 ⟨rfl, f6⟩
    have f46 := (unhide F45).trans f6
    have c6 := fun j => cell_of_row w6 _ j _ 39 (0, 0) (unhide HKEEP _ f46)
    have F46 := hide f46
    clear f6 f46 F45 H19 c5
    go_wp2_with fail
    go_at_call 15
    refine (unhide H15 _ (unhide F46)).mono ?_
    rintro e w7 ⟨rfl, f7⟩
    have f47 := (unhide F46).trans f7
    have F47 := hide f47
    clear f7 f47 F46 H15 c6
    go_wp2
    go_ret
    refine ⟨rfl, ?_⟩
    have e1 := (unhide HK).fr.trans ((unhide HF3).trans (unhide F47))
    exact e1.alloc _
  have h3' : ¬ (n : Int) < 3 := by omega
  obtain ⟨ys, a, why, hr, hpre, ha3, han, hw2, hw1, hB, hBr⟩ := hcut.2 (by omega)
  have hylen : ys.length ≤ xs.length + 1 := by have := hpre.length_le; unfold alls at this; simpa using this
  have hcnt := (unhide HK).cnt
  have hyf : ∀ y, y ∈ ys → Fit y := by have := (rdV t).2; intro y hy; exact this y (by show y ∈ (readL (bs t)).1; rw [hr]; exact hy)
  have h16 : ∀ W : World, Calls Tryz.prog 16 #[.string t] W fun e w' => ∃ b c, ∃ ps : List (Inp × Value), e = .returned (.tuple #[.slice b ys.length c, .int .i64 a, .int .i64 why]) ∧ InsAt w' W.heap.size (.slice b ys.length c) ps ∧ ps.map (·.1) = ys ∧ Fr (fun _ => False) W w' (fun _ => False) := fun W => by
    refine (read_ps t htz W).mono ?_
    rintro e w' ⟨b, c, ps, rfl, hi, hp, hf⟩
    rw [hr] at hp ⊢
    have hl : ps.length = ys.length := by have := congrArg List.length hp; simpa using this
    rw [hl] at hi ⊢
    exact ⟨b, c, ps, rfl, hi, hp, hf⟩
  have H16 := hide h16
  have han' : (a : Int) ≤ (n : Int) := by omega
  have hhd := (unhide HK).heard
  have hcase : (why = 2 ∧ (n : Int) < (lg.size : Int)) ∨ (why = 1 ∧ ¬ (n : Int) < (lg.size : Int)) := by
    by_cases hlt : n < lg.size
    · exact .inl ⟨hw2 hlt, by omega⟩
    · exact .inr ⟨hw1 (by omega), by omega⟩
  clear hw1 hw2
  rcases hcase with ⟨hwhy, hnB⟩ | ⟨hwhy, hnB⟩
  all_goals
    subst hwhy
    clear h16 hcut
    go_at_call 16
    refine (unhide H16 _).mono ?_
    rintro e w5 ⟨ba, bc, ps, rfl, insB, hps, f5⟩
    have f45 := (unhide F4).trans f5
    have c5 := fun j => cell_of_row w5 _ j _ 39 (0, 0) (unhide HKEEP _ f45)
    have hpl : ps.length = ys.length := by rw [← hps]; simp
    have h19 := heads_any insB ((unhide INSA).fr f5) (by rw [hps, unhide HPSA]; exact hpre) (by omega) (fun q hq => fit_files (hyf q.1 (by rw [← hps]; exact List.mem_map_of_mem hq)))
    rw [hpl] at h19
    have H19 := hide h19
    have F45 := hide f45
    clear insB f5 f45 h19 H16 c4 hyf hpl hps
    go_wp2_with fail
    go_at_call 19
    refine (unhide H19).mono ?_
    rintro e w6 ⟨rfl, f6⟩
    have f46 := (unhide F45).trans f6
    have c6 := fun j => cell_of_row w6 _ j _ 39 (0, 0) (unhide HKEEP _ f46)
    have F46 := hide f46
    clear f6 f46 F45 H19 c5
    go_wp2_with fail
    go_at_call 15
    refine ((unhide HK).replay (unhide HTAB) ((unhide HF3).trans (unhide F46)) t htz (by rw [hr]; show ys.length ≤ _; omega)).mono ?_
    rintro e w7 ⟨f7, ⟨h0, _⟩ | ⟨_, ra, rc, r, hrr, rfl, ho⟩⟩
    · rw [hr] at h0; change a = 0 at h0; omega
    rw [← hrr] at hB hBr
    rcases hBr with ⟨hxy, hrs⟩ | ⟨hxy, hf5, hh⟩
    · have hrs' := hrs.symm
      subst hrs'
      have hxy' : (xs.length : Int) ≤ (ys.length : Int) := by omega
      have f47 := (unhide F46).trans f7
      have c7 := fun j => cell_of_row w7 _ j _ 39 (0, 0) (unhide HKEEP _ f47)
      have hlt7 : w2.heap.size < w7.heap.size := (Array.getElem?_eq_some_iff.1 (unhide HKEEP _ f47)).1
      have hne7 : w2.heap.size ≠ w7.heap.size := by omega
      have hne7' : ¬ w7.heap.size = w2.heap.size := by omega
      have hrl : s.trace.length ≤ s.trace.length := hB.length_le
      have hstb := (unhide HK).trb
      have W8f : Fr (fun _ => False) w7 (w7.alloc (.cells #[.int .i64 s.fin, .int .i64 (s.reg 0), .int .i64 (s.reg 1), .int .i64 (s.reg 2), .int .i64 (s.reg 3), .int .i64 s.clock, .int .i64 (xs.length : Int)] 37)) (fun _ => False) := (Fr.refl _ _).alloc _
      have o7 : OpsIn (w7.alloc (.cells #[.int .i64 s.fin, .int .i64 (s.reg 0), .int .i64 (s.reg 1), .int .i64 (s.reg 2), .int .i64 (s.reg 3), .int .i64 s.clock, .int .i64 (xs.length : Int)] 37)) (.slice ra s.trace.length rc) s.trace.length (fun i => s.trace.getD i (0, 0, 0)) := row_ops' (ownsRow_of_block ho (fun q hq => W8f.same q (World.ownsRow.lt ho q hq).2 (fun h => h))) (by omega)
      have H20 := hide (begins_any (w := w7.alloc (.cells #[.int .i64 s.fin, .int .i64 (s.reg 0), .int .i64 (s.reg 1), .int .i64 (s.reg 2), .int .i64 (s.reg 3), .int .i64 s.clock, .int .i64 (xs.length : Int)] 37)) o7 ((unhide HK).row ((unhide HF3).trans (f47.trans W8f))) hrl (by omega) (fun i _ => rfl))
      have O7 := hide o7
      have F47 := hide f47
      have W8F := hide W8f
      clear f7 f47 F46 c6 ho o7 W8f hr hrr hB hpre
      have h17 : ∀ W, Dr (w7.alloc (.cells #[.int .i64 s.fin, .int .i64 (s.reg 0), .int .i64 (s.reg 1), .int .i64 (s.reg 2), .int .i64 (s.reg 3), .int .i64 s.clock, .int .i64 (xs.length : Int)] 37)) W → Calls Tryz.prog 17 #[.slice ra s.trace.length rc, .slice ta s.trace.length tc] W fun e w' => e = .returned (.bool true) ∧ Dr W w' := fun W hd => by
        obtain ⟨m, rfl⟩ := hd
        have hfm : Fr (fun _ => False) (w7.alloc (.cells #[.int .i64 s.fin, .int .i64 (s.reg 0), .int .i64 (s.reg 1), .int .i64 (s.reg 2), .int .i64 (s.reg 3), .int .i64 s.clock, .int .i64 (xs.length : Int)] 37)) _ (fun _ => False) := (Fr.refl _ _).drewN m
        exact sameEvents_any _ _ _ _ _ (opsIn_below (hfm.below (B := (w7.alloc (.cells #[.int .i64 s.fin, .int .i64 (s.reg 0), .int .i64 (s.reg 1), .int .i64 (s.reg 2), .int .i64 (s.reg 3), .int .i64 s.clock, .int .i64 (xs.length : Int)] 37)).heap.size) (fun k hk => hk.elim) (Nat.le_refl _)) (unhide O7)) ((unhide HK).ops ((unhide HF3).trans ((unhide F47).trans ((unhide W8F).trans hfm))))
      have H17 := hide h17
      clear h17
      have k8 : (w7.alloc (.cells #[.int .i64 s.fin, .int .i64 (s.reg 0), .int .i64 (s.reg 1), .int .i64 (s.reg 2), .int .i64 (s.reg 3), .int .i64 s.clock, .int .i64 (xs.length : Int)] 37)).heap[w2.heap.size]? = some (.cells #[.slice s1a n1 s1c, .slice s2a n2 s2c, .slice s3a n3 s3c, .int .i64 fu, .string lg, .slice ta s.trace.length tc, .int .i64 s.fin, .int .i64 (s.reg 0), .int .i64 (s.reg 1), .int .i64 (s.reg 2), .int .i64 (s.reg 3), .int .i64 s.clock, .int .i64 s.heard, .bool true] 39) := (Below.heap_alloc _ _ _ hlt7).trans (unhide HKEEP _ (unhide F47))
      have k9 : (w7.alloc (.cells #[.int .i64 s.fin, .int .i64 (s.reg 0), .int .i64 (s.reg 1), .int .i64 (s.reg 2), .int .i64 (s.reg 3), .int .i64 s.clock, .int .i64 (xs.length : Int)] 37)).heap[w7.heap.size]? = some (.cells #[.int .i64 s.fin, .int .i64 (s.reg 0), .int .i64 (s.reg 1), .int .i64 (s.reg 2), .int .i64 (s.reg 3), .int .i64 s.clock, .int .i64 (xs.length : Int)] 37) := heap_alloc_new _ _
      have K8 := hide (fun j => cell_of_row _ _ j _ 39 (0, 0) k8)
      have K9 := hide (fun j => cell_of_row _ _ j _ 37 (0, 0) k9)
      clear k8 k9
      go_wp2_with (first | (go_at_call 20; refine (unhide H20).mono ?_; rintro e w8 ⟨rfl, d8⟩; have c8 := fun j => (d8.cell ⟨w2.heap.size, j, none⟩).trans (unhide K8 j); have r8 := fun j => (d8.cell ⟨w7.heap.size, j, none⟩).trans (unhide K9 j); have D8 := hide d8; clear d8) | (go_at_call 17; refine (unhide H17 _ (unhide D8)).mono ?_; rintro e w9 ⟨rfl, d9⟩; have c9 := fun j => (d9.cell ⟨w2.heap.size, j, none⟩).trans (c8 j); have r9 := fun j => (d9.cell ⟨w7.heap.size, j, none⟩).trans (r8 j); have D9 := hide d9; clear d9))
      go_ret
      refine ⟨rfl, ?_⟩
      have e1 := (unhide HK).fr.trans ((unhide HF3).trans ((unhide F47).trans (unhide W8F)))
      obtain ⟨m, rfl⟩ := unhide D8
      obtain ⟨m', rfl⟩ := unhide D9
      exact (e1.drewN m).drewN m'
    · have hxy' : ¬ (xs.length : Int) ≤ (ys.length : Int) := by omega
      rw [hf5, hh]
      clear hf5 hh
      have hmin : min (ys.length : Int) (xs.length : Int) = (ys.length : Int) := by omega
      have f47 := (unhide F46).trans f7
      have c7 := fun j => cell_of_row w7 _ j _ 39 (0, 0) (unhide HKEEP _ f47)
      have hlt7 : w2.heap.size < w7.heap.size := (Array.getElem?_eq_some_iff.1 (unhide HKEEP _ f47)).1
      have hne7 : w2.heap.size ≠ w7.heap.size := by omega
      have hne7' : ¬ w7.heap.size = w2.heap.size := by omega
      have hrl : r.trace.length ≤ s.trace.length := hB.length_le
      have hstb := (unhide HK).trb
      have W8f : Fr (fun _ => False) w7 (w7.alloc (.cells #[.int .i64 5, .int .i64 (r.reg 0), .int .i64 (r.reg 1), .int .i64 (r.reg 2), .int .i64 (r.reg 3), .int .i64 r.clock, .int .i64 (ys.length : Int)] 37)) (fun _ => False) := (Fr.refl _ _).alloc _
      have o7 : OpsIn (w7.alloc (.cells #[.int .i64 5, .int .i64 (r.reg 0), .int .i64 (r.reg 1), .int .i64 (r.reg 2), .int .i64 (r.reg 3), .int .i64 r.clock, .int .i64 (ys.length : Int)] 37)) (.slice ra r.trace.length rc) r.trace.length (fun i => r.trace.getD i (0, 0, 0)) := row_ops' (ownsRow_of_block ho (fun q hq => W8f.same q (World.ownsRow.lt ho q hq).2 (fun h => h))) (by omega)
      have H20 := hide (begins_any (w := w7.alloc (.cells #[.int .i64 5, .int .i64 (r.reg 0), .int .i64 (r.reg 1), .int .i64 (r.reg 2), .int .i64 (r.reg 3), .int .i64 r.clock, .int .i64 (ys.length : Int)] 37)) o7 ((unhide HK).row ((unhide HF3).trans (f47.trans W8f))) hrl (by omega) (fun i hi => by
        obtain ⟨u, hu⟩ := hB
        simp only [List.getD_eq_getElem?_getD]
        rw [← hu, List.getElem?_append_left hi]))
      have O7 := hide o7
      have F47 := hide f47
      have W8F := hide W8f
      clear f7 f47 F46 c6 ho o7 W8f hr hrr hB hpre
      have k8 : (w7.alloc (.cells #[.int .i64 5, .int .i64 (r.reg 0), .int .i64 (r.reg 1), .int .i64 (r.reg 2), .int .i64 (r.reg 3), .int .i64 r.clock, .int .i64 (ys.length : Int)] 37)).heap[w2.heap.size]? = some (.cells #[.slice s1a n1 s1c, .slice s2a n2 s2c, .slice s3a n3 s3c, .int .i64 fu, .string lg, .slice ta s.trace.length tc, .int .i64 s.fin, .int .i64 (s.reg 0), .int .i64 (s.reg 1), .int .i64 (s.reg 2), .int .i64 (s.reg 3), .int .i64 s.clock, .int .i64 s.heard, .bool true] 39) := (Below.heap_alloc _ _ _ hlt7).trans (unhide HKEEP _ (unhide F47))
      have k9 : (w7.alloc (.cells #[.int .i64 5, .int .i64 (r.reg 0), .int .i64 (r.reg 1), .int .i64 (r.reg 2), .int .i64 (r.reg 3), .int .i64 r.clock, .int .i64 (ys.length : Int)] 37)).heap[w7.heap.size]? = some (.cells #[.int .i64 5, .int .i64 (r.reg 0), .int .i64 (r.reg 1), .int .i64 (r.reg 2), .int .i64 (r.reg 3), .int .i64 r.clock, .int .i64 (ys.length : Int)] 37) := heap_alloc_new _ _
      have K8 := hide (fun j => cell_of_row _ _ j _ 39 (0, 0) k8)
      have K9 := hide (fun j => cell_of_row _ _ j _ 37 (0, 0) k9)
      clear k8 k9
      go_wp2_with (go_at_call 20; refine (unhide H20).mono ?_; rintro e w8 ⟨rfl, d8⟩; have c8 := fun j => (d8.cell ⟨w2.heap.size, j, none⟩).trans (unhide K8 j); have r8 := fun j => (d8.cell ⟨w7.heap.size, j, none⟩).trans (unhide K9 j); have D8 := hide d8; clear d8)
      go_ret
      refine ⟨rfl, ?_⟩
      have e1 := (unhide HK).fr.trans ((unhide HF3).trans ((unhide F47).trans (unhide W8F)))
      obtain ⟨m, rfl⟩ := unhide D8
      exact e1.drewN m
end Go.Proofs.YtfmbebofllgmoaaGreatDoor

