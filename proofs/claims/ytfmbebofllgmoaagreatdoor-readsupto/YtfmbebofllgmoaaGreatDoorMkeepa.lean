/-
  PROVED HERE: the keep statements' operation that may be, of a raw one. the keep statements' handler, of raw operations. the keep statements' program, of raw handlers. the keep statements' program, of raw handlers: the walk. the keep statements' comparisons, of what is the same.
-/
import Derived.Test.YtfmbebofllgmoaaGreatDoorMbase
import Derived.Test.YtfmbebofllgmoaaGreatDoorMread
import Derived.Test.YtfmbebofllgmoaaGreatDoorMlogs
import Derived.Deep.DeepCutAuto
import Derived.Test.YtfmbebofllgmoaaGreatDoorMloopb
import Derived.Test.YtfmbebofllgmoaaGreatDoorMrec
import Derived.BigQuiet
namespace Go.Proofs.YtfmbebofllgmoaaGreatDoor
open Go.RowKit

def inR (z : Int) : Prop := -9223372036854775808 ≤ z ∧ z ≤ 9223372036854775807
def In3 (o : O3) : Prop := inR o.1 ∧ inR o.2.1 ∧ inR o.2.2
/-- An operation that may be, among three timers and three files. -/
def opK (o : O3) : O3 :=
  if pickI o.1 11 = 1 then (2, pickI o.2.1 4, pickI o.2.2 4)
  else if pickI o.1 11 = 2 then (3, pickI o.2.1 3, pickI o.2.2 4)
  else if pickI o.1 11 = 3 then (4, pickI o.2.1 3, pickI o.2.2 4)
  else if pickI o.1 11 = 4 then (5, pickI o.2.1 3, o.2.2)
  else if pickI o.1 11 = 5 then (6, pickI o.2.1 3, o.2.2)
  else if pickI o.1 11 = 7 then (8, pickI o.2.1 4, 1 + pickI o.2.2 20)
  else if pickI o.1 11 = 9 then (10, pickI o.2.1 4, pickI o.2.2 12)
  else if pickI o.1 11 = 0 then (1, pickI o.2.1 4, pickI o.2.2 12)
  else (1 + pickI o.1 11, pickI o.2.1 4, o.2.2)

set_option maxHeartbeats 1000000 in
theorem op_any (o : O3) (h : In3 o) (w : World) : Calls Tryz.prog 61 #[.agg #[.int .i64 o.1, .int .i64 o.2.1, .int .i64 o.2.2], .int .i64 3, .int .i64 3] w fun e w' => e = .returned (.agg #[.int .i64 (opK o).1, .int .i64 (opK o).2.1, .int .i64 (opK o).2.2]) ∧ Fr (fun _ => False) w w' (fun _ => False) := by
  obtain ⟨c, a, b⟩ := o
  obtain ⟨h1, h2, h3⟩ := h
  simp only [inR] at h1 h2 h3
  have H18 := hide (show ∀ (z n : Int) (w : World), ((z = c ∧ n = 11) ∨ (z = a ∧ n = 4) ∨ (z = a ∧ n = 3) ∨ (z = b ∧ n = 4) ∨ (z = b ∧ n = 20) ∨ (z = b ∧ n = 12)) → Calls Tryz.prog 18 #[.int .i64 z, .int .i64 n] w fun e w' => e = .returned (.int .i64 (pickI z n)) ∧ w' = w from fun z n w hz => kpick_any z n (by omega) (by omega) (by omega) w)
  go_enter Tryz.func61, Tryz.ntmps61
  go_wp2
  rename_i K hK0
  have hw1 : IntKind.i64.wrap (1 + pickI c 11) = 1 + pickI c 11 := by have := pickI_range c 11 (by omega); rw [IntKind.wrap_i64]; omega
  have hdone : K ⟨#[.agg #[.int .i64 c, .int .i64 a, .int .i64 b], .int .i64 3, .int .i64 3, .pointer (some ⟨w.heap.size, 0, none⟩), undef, undef, .pointer (some ⟨w.heap.size + 1, 0, none⟩), .pointer (some ⟨w.heap.size + 1 + 1, 0, none⟩), .pointer (some ⟨w.heap.size, 0, none⟩), .int .i64 c, .int .i64 (pickI c 11), .int .i64 (1 + pickI c 11), .pointer (some ⟨w.heap.size, 1, none⟩), .int .i64 a, .int .i64 (pickI a 4), .pointer (some ⟨w.heap.size, 2, none⟩), .int .i64 b, .agg #[.int .i64 (1 + pickI c 11), .int .i64 (pickI a 4), .int .i64 b], undef, undef, undef, undef, undef, undef, undef, undef, undef, undef, undef, undef, undef, undef, undef, undef, undef, undef, undef, undef, undef, undef, undef, undef, undef, undef, undef, undef, undef, undef, undef, undef, undef, undef, undef, undef, undef, undef, undef, undef, undef, undef, undef], []⟩ (((w.alloc (.cells #[.int .i64 c, .int .i64 a, .int .i64 b] 70)).alloc (.cells #[.int .i64 0, .int .i64 0, .int .i64 0] 70)).drew.alloc (.cells #[.int .i64 (1 + pickI c 11), .int .i64 (pickI a 4), .int .i64 b] 70)) := by
    have hw2 : IntKind.i64.wrap (1 + pickI b 20) = 1 + pickI b 20 := by have := pickI_range b 20 (by omega); rw [IntKind.wrap_i64]; omega
    have hp := pickI_range c 11 (by omega)
    have hc : pickI c 11 = 0 ∨ pickI c 11 = 1 ∨ pickI c 11 = 2 ∨ pickI c 11 = 3 ∨ pickI c 11 = 4 ∨ pickI c 11 = 5 ∨ pickI c 11 = 6 ∨ pickI c 11 = 7 ∨ pickI c 11 = 8 ∨ pickI c 11 = 9 ∨ pickI c 11 = 10 := by omega
    clear hp hw1
    refine hK0 _ _ ?_
    clear hK0
    rcases hc with h | h | h | h | h | h | h | h | h | h | h
    all_goals
      have HO := hide (show opK (c, a, b) = _ by simp only [opK, h]; rfl)
      rw [h]
      clear h
      go_wp2_with (go_at_call 18; refine (unhide H18 _ _ _ (by simp)).mono ?_; rintro e w' ⟨rfl, rfl⟩)
      refine bodyPost_ret (v := .agg #[.int .i64 (opK (c, a, b)).1, .int .i64 (opK (c, a, b)).2.1, .int .i64 (opK (c, a, b)).2.2]) (by rw [unhide HO]; simp [results, Tryz.results61, go_sem]) rfl ⟨rfl, ?_⟩
      repeat (first | exact Fr.refl _ _ | refine Fr.setCell ?_ _ _ (.inr (by simp)) | refine Fr.alloc ?_ _ | refine Fr.drew ?_)
  refine wp_region_held_drew (S := fun w' => w'.cell? ⟨w.heap.size, 0, none⟩ = some (.int .i64 c) ∧ w'.cell? ⟨w.heap.size, 1, none⟩ = some (.int .i64 a) ∧ w'.cell? ⟨w.heap.size, 2, none⟩ = some (.int .i64 b)) (by kernel_rfl) ?_ (fun hHeld => ?_)
  · simp [go_sem]
  refine take_yes (i := 0) (d := 8) (v := ?_) (fuel := 11) rfl rfl (by kernel_rfl) (by kernel_rfl) (by kernel_rfl) (fun _ _ _ h => h) (by rfl) ?_ (by assumption) ?_
  rotate_left
  · intro w hSw; (try dsimp only at hSw); go_simp; try with_reducible rfl
  simp only [List.setIfInBounds_toArray, List.set_cons_zero, List.set_cons_succ]
  refine take_yes (i := 1) (d := 9) (v := ?_) (fuel := 10) rfl rfl (by kernel_rfl) (by kernel_rfl) (by kernel_rfl) (fun _ _ _ h => h) (by rfl) ?_ (by assumption) ?_
  rotate_left
  · intro w hSw; (try dsimp only at hSw); go_simp; try with_reducible rfl
  simp only [List.setIfInBounds_toArray, List.set_cons_zero, List.set_cons_succ]
  refine take_yes (i := 4) (d := 12) (v := ?_) (fuel := 9) rfl rfl (by kernel_rfl) (by kernel_rfl) (by kernel_rfl) (fun _ _ _ h => h) (by rfl) ?_ (by assumption) ?_
  rotate_left
  · intro w hSw; (try dsimp only at hSw); go_simp; try with_reducible rfl
  simp only [List.setIfInBounds_toArray, List.set_cons_zero, List.set_cons_succ]
  refine take_yes (i := 5) (d := 13) (v := ?_) (fuel := 8) rfl rfl (by kernel_rfl) (by kernel_rfl) (by kernel_rfl) (fun _ _ _ h => h) (by rfl) ?_ (by assumption) ?_
  rotate_left
  · intro w hSw; (try dsimp only at hSw); go_simp; try with_reducible rfl
  simp only [List.setIfInBounds_toArray, List.set_cons_zero, List.set_cons_succ]
  refine take_yes (i := 7) (d := 15) (v := ?_) (fuel := 7) rfl rfl (by kernel_rfl) (by kernel_rfl) (by kernel_rfl) (fun _ _ _ h => h) (by rfl) ?_ (by assumption) ?_
  rotate_left
  · intro w hSw; (try dsimp only at hSw); go_simp; try with_reducible rfl
  simp only [List.setIfInBounds_toArray, List.set_cons_zero, List.set_cons_succ]
  refine take_yes (i := 8) (d := 16) (v := ?_) (fuel := 6) rfl rfl (by kernel_rfl) (by kernel_rfl) (by kernel_rfl) (fun _ _ _ h => h) (by rfl) ?_ (by assumption) ?_
  rotate_left
  · intro w hSw; (try dsimp only at hSw); go_simp; try with_reducible rfl
  simp only [List.setIfInBounds_toArray, List.set_cons_zero, List.set_cons_succ]
  refine wpAnyH_ready (rs := [2, 10]) (by kernel_rfl) (by simp) ?_
  refine (AllReadyH.cons rfl (fun K' hK' => ?_) (AllReadyH.cons rfl (fun K' hK' => ?_) AllReadyH.nil))
  · go_simp
    go_at_call 18
    refine (unhide H18 _ _ _ (by simp)).mono ?_
    rintro _ w' ⟨rfl, rfl⟩
    refine hK'.out _ _ ?_ (fun hHeld => ?_)
    · simp [go_sem]
    clear hK' K'
    try simp only [List.setIfInBounds_toArray, List.set_cons_zero, List.set_cons_succ]
    refine take_yes (i := 3) (d := 11) (v := ?_) (fuel := 4) rfl rfl (by kernel_rfl) (by kernel_rfl) (by kernel_rfl) (fun _ _ _ h => h) (by rfl) ?_ (by assumption) ?_
    rotate_left
    · intro w hSw; (try dsimp only at hSw); go_simp; try with_reducible rfl
    simp only [List.setIfInBounds_toArray, List.set_cons_zero, List.set_cons_succ]
    refine wpAnyH_ready (rs := [6, 10]) (by kernel_rfl) (by simp) ?_
    refine (AllReadyH.cons rfl (fun K' hK' => ?_) (AllReadyH.cons rfl (fun K' hK' => ?_) AllReadyH.nil))
    · go_simp
      go_at_call 18
      refine (unhide H18 _ _ _ (by simp)).mono ?_
      rintro _ w' ⟨rfl, rfl⟩
      refine hK'.out _ _ ?_ (fun hHeld => ?_)
      · simp [go_sem]
      clear hK' K'
      try simp only [List.setIfInBounds_toArray, List.set_cons_zero, List.set_cons_succ]
      refine take_yes (i := 9) (d := 17) (v := ?_) (fuel := 2) rfl rfl (by kernel_rfl) (by kernel_rfl) (by kernel_rfl) (fun _ _ _ h => h) (by rfl) ?_ (by assumption) ?_
      rotate_left
      · intro w hSw; (try dsimp only at hSw); go_simp; try with_reducible rfl
      simp only [List.setIfInBounds_toArray, List.set_cons_zero, List.set_cons_succ]
      refine wpAnyH_ready (rs := [10]) (by kernel_rfl) (by simp) ?_
      refine (AllReadyH.cons rfl (fun K' hK' => ?_) AllReadyH.nil)
      go_simp
      refine hK'.out _ _ ?_ (fun hHeld => ?_)
      · simp [go_sem]
      clear hK' K'
      try simp only [List.setIfInBounds_toArray, List.set_cons_zero, List.set_cons_succ]
      refine wpAnyH_ready (rs := [11]) (by kernel_rfl) (by simp) ?_
      refine (AllReadyH.cons rfl (fun K' hK' => ?_) AllReadyH.nil)
      go_simp
      refine hK'.out _ _ ?_ (fun hHeld => ?_)
      · simp [go_sem]
      clear hK' K'
      try simp only [List.setIfInBounds_toArray, List.set_cons_zero, List.set_cons_succ]
      refine wpAnyH_done (by kernel_rfl) ?_ _
      exact hdone
    · go_simp
      refine hK'.out _ _ ?_ (fun hHeld => ?_)
      · simp [go_sem]
      clear hK' K'
      try simp only [List.setIfInBounds_toArray, List.set_cons_zero, List.set_cons_succ]
      refine wpAnyH_ready (rs := [6]) (by kernel_rfl) (by simp) ?_
      refine (AllReadyH.cons rfl (fun K' hK' => ?_) AllReadyH.nil)
      go_simp
      go_at_call 18
      refine (unhide H18 _ _ _ (by simp)).mono ?_
      rintro _ w' ⟨rfl, rfl⟩
      refine hK'.out _ _ ?_ (fun hHeld => ?_)
      · simp [go_sem]
      clear hK' K'
      try simp only [List.setIfInBounds_toArray, List.set_cons_zero, List.set_cons_succ]
      refine take_yes (i := 9) (d := 17) (v := ?_) (fuel := 1) rfl rfl (by kernel_rfl) (by kernel_rfl) (by kernel_rfl) (fun _ _ _ h => h) (by rfl) ?_ (by assumption) ?_
      rotate_left
      · intro w hSw; (try dsimp only at hSw); go_simp; try with_reducible rfl
      simp only [List.setIfInBounds_toArray, List.set_cons_zero, List.set_cons_succ]
      refine wpAnyH_ready (rs := [11]) (by kernel_rfl) (by simp) ?_
      refine (AllReadyH.cons rfl (fun K' hK' => ?_) AllReadyH.nil)
      go_simp
      refine hK'.out _ _ ?_ (fun hHeld => ?_)
      · simp [go_sem]
      clear hK' K'
      try simp only [List.setIfInBounds_toArray, List.set_cons_zero, List.set_cons_succ]
      refine wpAnyH_done (by kernel_rfl) ?_ _
      exact hdone
  · go_simp
    refine hK'.out _ _ ?_ (fun hHeld => ?_)
    · simp [go_sem]
    clear hK' K'
    try simp only [List.setIfInBounds_toArray, List.set_cons_zero, List.set_cons_succ]
    refine wpAnyH_ready (rs := [2]) (by kernel_rfl) (by simp) ?_
    refine (AllReadyH.cons rfl (fun K' hK' => ?_) AllReadyH.nil)
    go_simp
    go_at_call 18
    refine (unhide H18 _ _ _ (by simp)).mono ?_
    rintro _ w' ⟨rfl, rfl⟩
    refine hK'.out _ _ ?_ (fun hHeld => ?_)
    · simp [go_sem]
    clear hK' K'
    try simp only [List.setIfInBounds_toArray, List.set_cons_zero, List.set_cons_succ]
    refine take_yes (i := 3) (d := 11) (v := ?_) (fuel := 3) rfl rfl (by kernel_rfl) (by kernel_rfl) (by kernel_rfl) (fun _ _ _ h => h) (by rfl) ?_ (by assumption) ?_
    rotate_left
    · intro w hSw; (try dsimp only at hSw); go_simp; try with_reducible rfl
    simp only [List.setIfInBounds_toArray, List.set_cons_zero, List.set_cons_succ]
    refine wpAnyH_ready (rs := [6]) (by kernel_rfl) (by simp) ?_
    refine (AllReadyH.cons rfl (fun K' hK' => ?_) AllReadyH.nil)
    go_simp
    go_at_call 18
    refine (unhide H18 _ _ _ (by simp)).mono ?_
    rintro _ w' ⟨rfl, rfl⟩
    refine hK'.out _ _ ?_ (fun hHeld => ?_)
    · simp [go_sem]
    clear hK' K'
    try simp only [List.setIfInBounds_toArray, List.set_cons_zero, List.set_cons_succ]
    refine take_yes (i := 9) (d := 17) (v := ?_) (fuel := 1) rfl rfl (by kernel_rfl) (by kernel_rfl) (by kernel_rfl) (fun _ _ _ h => h) (by rfl) ?_ (by assumption) ?_
    rotate_left
    · intro w hSw; (try dsimp only at hSw); go_simp; try with_reducible rfl
    simp only [List.setIfInBounds_toArray, List.set_cons_zero, List.set_cons_succ]
    refine wpAnyH_ready (rs := [11]) (by kernel_rfl) (by simp) ?_
    refine (AllReadyH.cons rfl (fun K' hK' => ?_) AllReadyH.nil)
    go_simp
    refine hK'.out _ _ ?_ (fun hHeld => ?_)
    · simp [go_sem]
    clear hK' K'
    try simp only [List.setIfInBounds_toArray, List.set_cons_zero, List.set_cons_succ]
    refine wpAnyH_done (by kernel_rfl) ?_ _
    exact hdone
end Go.Proofs.YtfmbebofllgmoaaGreatDoor
namespace Go.Proofs.YtfmbebofllgmoaaGreatDoor
open Go.RowKit
attribute [local go_sem ↓] Go.wp_at_zero Go.wp_at_succ

def hdO (i : Nat) (o : O3) : O3 := if (opK o).1 = 11 ∧ i < 5 then (9, (opK o).2.1, 0) else opK o
/-- The first k operations of a handler. -/
def hdL (f : Nat → O3) (k : Nat) : List O3 := (List.range k).map fun i => hdO i (f i)
theorem hdL_succ (f : Nat → O3) (k : Nat) : hdL f (k + 1) = hdL f k ++ [hdO k (f k)] := by unfold hdL; rw [List.range_succ, List.map_append]; rfl
theorem hdL_length (f : Nat → O3) (k : Nat) : (hdL f k).length = k := by simp [hdL]
theorem cells_new3 (W : World) (g : Nat) (a b c : Value) (e : Nat) (hg : g = W.heap.size) : ∀ j u, [a, b, c][j]? = some u → (W.alloc (.cells #[a, b, c] e)).cell? (Addr.add ⟨g, 0, none⟩ j) = some u := by
  intro j u hj
  subst hg
  have h0 := heap_alloc_new W (.cells #[a, b, c] e)
  rcases j with _ | _ | _ | j
  · injection hj with hj; subst hj; exact cell_of_row _ _ 0 _ e (0, 0) h0
  · injection hj with hj; subst hj; exact cell_of_row _ _ 1 _ e (0, 0) h0
  · injection hj with hj; subst hj; exact cell_of_row _ _ 2 _ e (0, 0) h0
  · cases hj
def HdRel (w : World) (n : Nat) (f : Nat → O3) (u i : Value) (wr : World) : Prop := ∃ k : Nat, k ≤ min n 8 ∧ i = .int .i64 k ∧ wr.ownsRow w.heap.size 70 3 u k (flatE (hdL f k)) ∧ (∃ a c, u = .slice a k c) ∧ Fr (fun _ => False) w wr (fun _ => False)

set_option maxHeartbeats 2000000 in
set_option maxRecDepth 20000 in
theorem handler_any {w : World} {v : Value} {n : Nat} {f : Nat → O3} (h : OpsIn w v n f) (hin : ∀ i, i < n → In3 (f i)) :
    Calls Tryz.prog 35 #[v, .int .i64 3, .int .i64 3] w fun e w' => ∃ a c, e = .returned (.slice a (min n 8) c) ∧ w'.ownsRow w.heap.size 70 3 (.slice a (min n 8) c) (min n 8) (flatE (hdL f (min n 8))) ∧ Fr (fun _ => False) w w' (fun _ => False) := by
  obtain ⟨a, c, rfl, hn, hf⟩ := h
  have HF := hide hf
  have HIN := hide hin
  clear hf hin
  go_enter Tryz.func35, Tryz.ntmps35
  go_wp2
  go_loopw [7, 8] (fun u i wr => HdRel w n f u i wr) (fun _ i _ => min n 8 - (intOf i).toNat)
  case atStart => exact ⟨0, Nat.zero_le _, rfl, World.ownsRow_nil _ _ _ _, ⟨_, _, rfl⟩, Fr.refl _ _⟩
  case round =>
    obtain ⟨k, hk, rfl, hrow, ⟨ua, uc, rfl⟩, hfr⟩ := hrel
    have HROW := hide hrow
    have HFR := hide hfr
    clear hrow hfr
    go_upto_region 3 with fail
    go_cut [17] (fun b wc => b = .bool (decide (k < min n 8)) ∧ wr = wc)
    case first =>
      by_cases h9 : (k : Int) < (n : Int)
      · by_cases h8 : (k : Int) < 8
        · have e : decide (k < min n 8) = true := by simp; omega
          go_wp2_with fail
          go_meet
          exact ⟨by rw [e], rfl⟩
        · have e : decide (k < min n 8) = false := by simp; omega
          go_wp2_with fail
          go_meet
          exact ⟨by rw [e], rfl⟩
      · have e : decide (k < min n 8) = false := by simp; omega
        go_wp2_with fail
        go_meet
        exact ⟨by rw [e], rfl⟩
    case rest =>
    obtain ⟨rfl, rfl⟩ := hcut
    by_cases hlt : k < min n 8
    · have hde : decide (k < min n 8) = true := by simpa using hlt
      rw [hde]
      rcases unhide HF with hz | ⟨q, off, rfl, hf⟩
      · omega
      obtain ⟨g0, g1, g2⟩ := hf k (by omega)
      have hq : q < w.heap.size := World.block_lt_of_cell? w _ g0
      have c0 := ((unhide HFR).cell q _ hq (fun h => h)).trans g0
      have c1 := ((unhide HFR).cell q _ hq (fun h => h)).trans g1
      have c2 := ((unhide HFR).cell q _ hq (fun h => h)).trans g2
      have hop := op_any (f k) (unhide HIN k (by omega)) wr
      have hsu := hdL_succ f k
      have hdo : hdO k (f k) = if (opK (f k)).1 = 11 ∧ k < 5 then (9, (opK (f k)).2.1, 0) else opK (f k) := rfl
      generalize hdO k (f k) = y at *
      generalize opK (f k) = z at *
      generalize f k = x at *
      have HOP := hide hop
      have HSU := hide hsu
      have hk0 : (0 : Int) ≤ (k : Int) := by omega
      have hk1 : (k : Int) < (n : Int) := by omega
      have hbs := (unhide HFR).size
      clear hop hsu hf g0 g1 g2
      by_cases h11 : z.1 = 11
      · by_cases h5 : k < 5
        · rw [if_pos ⟨h11, h5⟩] at hdo
          subst hdo
          have h5' : (k : Int) < 5 := by omega
          have h11b : (z.1 == 11) = true := by simpa using h11
          clear h11
          go_wp2_with (first
            | (go_at_call 61; refine (unhide HOP).mono ?_; rintro e w2 ⟨rfl, f2⟩; have hr2 := ownsRow_of_block (w' := w2) (unhide HROW) (fun q hq => f2.same q (World.ownsRow.lt (unhide HROW) q hq).2 (fun h => h)); have R2 := hide hr2; have F2 := hide ((unhide HFR).trans f2); have hz2 := f2.size; clear f2 hr2)
            | (at_builtin; refine wpList_grow elemO (by omega) (by omega) (B := w.heap.size) (n := k) (m := 1) (xs := flatE (hdL f k)) (news := [.int .i64 9, .int .i64 z.2.1, .int .i64 0]) rfl (.tmp 37) (.tmp 39) rfl (ad := ⟨w2.heap.size + 1, 0, none⟩) (cap := 1) rfl rfl (((unhide R2).alloc _).alloc _) rfl (cells_new3 _ _ _ _ _ _ (by simp)) (by simp [Value.oneCell']) (by omega) (by omega) (by simp; omega) ?_; intro v3 w3 o3 f3 sh3; obtain ⟨a3, c3, rfl⟩ := sh3))
          go_roundw
          case rel =>
            refine ⟨k + 1, by omega, by go_num, ?_, ⟨_, _, rfl⟩, ?_⟩
            · rw [unhide HSU, flatE_append]; exact o3
            · exact (((unhide F2).alloc _).alloc _).fresh f3 (fun q hq => (World.ownsRow.lt (unhide R2) q hq).1)
          case measure => simp [intOf]; omega
        · rw [if_neg (fun h => h5 h.2)] at hdo
          subst hdo
          have h5' : ¬ (k : Int) < 5 := by omega
          have h11b : (y.1 == 11) = true := by simpa using h11
          clear h11
          go_wp2_with (first
            | (go_at_call 61; refine (unhide HOP).mono ?_; rintro e w2 ⟨rfl, f2⟩; have hr2 := ownsRow_of_block (w' := w2) (unhide HROW) (fun q hq => f2.same q (World.ownsRow.lt (unhide HROW) q hq).2 (fun h => h)); have R2 := hide hr2; have F2 := hide ((unhide HFR).trans f2); have hz2 := f2.size; clear f2 hr2)
            | (at_builtin; refine wpList_grow elemO (by omega) (by omega) (B := w.heap.size) (n := k) (m := 1) (xs := flatE (hdL f k)) (news := [.int .i64 y.1, .int .i64 y.2.1, .int .i64 y.2.2]) rfl (.tmp 37) (.tmp 39) rfl (ad := ⟨w2.heap.size + 1, 0, none⟩) (cap := 1) rfl rfl (((unhide R2).alloc _).alloc _) rfl (cells_new3 _ _ _ _ _ _ (by simp)) (by simp [Value.oneCell']) (by omega) (by omega) (by simp; omega) ?_; intro v3 w3 o3 f3 sh3; obtain ⟨a3, c3, rfl⟩ := sh3))
          go_roundw
          case rel =>
            refine ⟨k + 1, by omega, by go_num, ?_, ⟨_, _, rfl⟩, ?_⟩
            · rw [unhide HSU, flatE_append]; exact o3
            · exact (((unhide F2).alloc _).alloc _).fresh f3 (fun q hq => (World.ownsRow.lt (unhide R2) q hq).1)
          case measure => simp [intOf]; omega
      · rw [if_neg (fun h => h11 h.1)] at hdo
        subst hdo
        have h11b : (y.1 == 11) = false := by simpa using h11
        clear h11
        go_wp2_with (first
          | (go_at_call 61; refine (unhide HOP).mono ?_; rintro e w2 ⟨rfl, f2⟩; have hr2 := ownsRow_of_block (w' := w2) (unhide HROW) (fun q hq => f2.same q (World.ownsRow.lt (unhide HROW) q hq).2 (fun h => h)); have R2 := hide hr2; have F2 := hide ((unhide HFR).trans f2); have hz2 := f2.size; clear f2 hr2)
          | (at_builtin; refine wpList_grow elemO (by omega) (by omega) (B := w.heap.size) (n := k) (m := 1) (xs := flatE (hdL f k)) (news := [.int .i64 y.1, .int .i64 y.2.1, .int .i64 y.2.2]) rfl (.tmp 37) (.tmp 39) rfl (ad := ⟨w2.heap.size + 1, 0, none⟩) (cap := 1) rfl rfl (((unhide R2).alloc _).alloc _) rfl (cells_new3 _ _ _ _ _ _ (by simp)) (by simp [Value.oneCell']) (by omega) (by omega) (by simp; omega) ?_; intro v3 w3 o3 f3 sh3; obtain ⟨a3, c3, rfl⟩ := sh3))
        go_roundw
        case rel =>
          refine ⟨k + 1, by omega, by go_num, ?_, ⟨_, _, rfl⟩, ?_⟩
          · rw [unhide HSU, flatE_append]; exact o3
          · exact (((unhide F2).alloc _).alloc _).fresh f3 (fun q hq => (World.ownsRow.lt (unhide R2) q hq).1)
        case measure => simp [intOf]; omega
    · have hde : decide (k < min n 8) = false := by simpa using hlt
      rw [hde]
      have hke : k = min n 8 := by omega
      subst hke
      go_wp2
      go_ret
      exact ⟨_, _, rfl, unhide HROW, unhide HFR⟩
end Go.Proofs.YtfmbebofllgmoaaGreatDoor
namespace Go.Proofs.YtfmbebofllgmoaaGreatDoor
open Go.RowKit
attribute [local go_sem ↓] Go.wp_at_zero Go.wp_at_succ

/-! ### What it is -/
def lnK (N : Nat) (ln : Nat → Nat) (i : Nat) : Nat := if i < N then min (ln i) 8 else 0
def hlK (N : Nat) (ln : Nat → Nat) (f : Nat → Nat → O3) (i : Nat) : List O3 := hdL (f i) (lnK N ln i)
def startK : List O3 := [(1, 0, 3), (3, 0, 0), (5, 1, 0), (5, 2, 0)]
/-- The program that is made of raw handlers. -/
def pgK (N : Nat) (ln : Nat → Nat) (f : Nat → Nat → O3) : Pg where
  sn := 4 + lnK N ln 6
  sf := fun j => (startK ++ hlK N ln f 6).getD j (0, 0, 0)
  tn := 3
  tl := fun i => lnK N ln (2 * i)
  tf := fun i j => hdO j (f (2 * i) j)
  fn := 3
  fl := fun i => lnK N ln (2 * i + 1)
  ff := fun i j => hdO j (f (2 * i + 1) j)

/-! ### It is right -/
theorem ans_of_ok {p : Pg} (o : PgOk p) : Ans p.tn p.fn (1 + p.tn + p.fn) (allL p.sn p.tn p.tl p.fl) (allF p.tn p.sf p.tf p.ff) 0 := by
  refine .inr (.inr (.inr (.inr ⟨o.tn, o.fn, fun i hi => ?_, fun i k hi hk => ?_, rfl⟩)))
  · unfold allL cat
    by_cases h1 : i < 1 + p.tn
    · rw [if_pos h1]
      by_cases h2 : i < 1
      · rw [if_pos h2, if_neg (by omega)]; exact o.sl
      · rw [if_neg h2]; exact o.tl _ (by omega)
    · rw [if_neg h1]; exact o.fl _ (by omega)
  · unfold allL cat at hk
    unfold allF cat
    by_cases h1 : i < 1 + p.tn
    · rw [if_pos h1] at hk ⊢
      by_cases h2 : i < 1
      · rw [if_pos h2, if_neg (by omega)] at hk ⊢; exact o.sr k hk
      · rw [if_neg h2] at hk ⊢; exact o.tr _ (by omega) k hk
    · rw [if_neg h1] at hk ⊢; exact o.fr _ (by omega) k hk
theorem opK_right (o : O3) : rt (opK o) 3 3 = true := by
  have p11 := pickI_range o.1 11 (by omega)
  have a4 := pickI_range o.2.1 4 (by omega)
  have a3 := pickI_range o.2.1 3 (by omega)
  have b4 := pickI_range o.2.2 4 (by omega)
  have b20 := pickI_range o.2.2 20 (by omega)
  have hc : pickI o.1 11 = 0 ∨ pickI o.1 11 = 1 ∨ pickI o.1 11 = 2 ∨ pickI o.1 11 = 3 ∨ pickI o.1 11 = 4 ∨ pickI o.1 11 = 5 ∨ pickI o.1 11 = 6 ∨ pickI o.1 11 = 7 ∨ pickI o.1 11 = 8 ∨ pickI o.1 11 = 9 ∨ pickI o.1 11 = 10 := by omega
  rcases hc with h | h | h | h | h | h | h | h | h | h | h
  all_goals (simp [opK, h, rt, rightB, fitsB, tabA, tabB]; try omega)
theorem opK_stop (o : O3) (h : (opK o).1 = 11) : (opK o).2.1 = pickI o.2.1 4 := by
  have p11 := pickI_range o.1 11 (by omega)
  have hc : pickI o.1 11 = 0 ∨ pickI o.1 11 = 1 ∨ pickI o.1 11 = 2 ∨ pickI o.1 11 = 3 ∨ pickI o.1 11 = 4 ∨ pickI o.1 11 = 5 ∨ pickI o.1 11 = 6 ∨ pickI o.1 11 = 7 ∨ pickI o.1 11 = 8 ∨ pickI o.1 11 = 9 ∨ pickI o.1 11 = 10 := by omega
  rcases hc with e | e | e | e | e | e | e | e | e | e | e
  all_goals (simp [opK, e] at h ⊢)
theorem hdO_right (i : Nat) (o : O3) : rt (hdO i o) 3 3 = true := by
  unfold hdO
  split
  · rename_i h1
    have a4 := pickI_range o.2.1 4 (by omega)
    rw [opK_stop o h1.1]
    simp [rt, rightB, fitsB, tabA, tabB]; omega
  · exact opK_right o
theorem lnK_le (N : Nat) (ln : Nat → Nat) (i : Nat) : lnK N ln i ≤ 8 := by unfold lnK; split <;> omega
theorem hlK_len (N : Nat) (ln : Nat → Nat) (f : Nat → Nat → O3) (i : Nat) : (hlK N ln f i).length = lnK N ln i := hdL_length _ _
theorem hdL_get (f : Nat → O3) (k j : Nat) (h : j < k) : (hdL f k).getD j (0, 0, 0) = hdO j (f j) := by
  unfold hdL
  rw [List.getD_eq_getElem?_getD, List.getElem?_map, List.getElem?_range h]; rfl
theorem pgK_ok (N : Nat) (ln : Nat → Nat) (f : Nat → Nat → O3) : PgOk (pgK N ln f) := by
  have h8 := lnK_le N ln
  refine ⟨by simp [pgK], by simp [pgK], ?_, fun i _ => ?_, fun i _ => ?_, fun j hj => ?_, fun i _ j _ => hdO_right _ _, fun i _ j _ => hdO_right _ _⟩
  · show 4 + lnK N ln 6 ≤ 32; have := h8 6; omega
  · show lnK N ln (2 * i) ≤ 32; have := h8 (2 * i); omega
  · show lnK N ln (2 * i + 1) ≤ 32; have := h8 (2 * i + 1); omega
  · show rt ((startK ++ hlK N ln f 6).getD j (0, 0, 0)) 3 3 = true
    rcases j with _ | _ | _ | _ | j
    · rfl
    · rfl
    · rfl
    · rfl
    · have hj' : j < lnK N ln 6 := by change j + 4 < 4 + lnK N ln 6 at hj; omega
      show rt ((hlK N ln f 6).getD j (0, 0, 0)) 3 3 = true
      unfold hlK
      rw [hdL_get _ _ _ hj']
      exact hdO_right _ _

/-! ### How it lies -/
theorem row_ops' {w : World} {B e : Nat} {v : Value} {l : List O3} (h : w.ownsRow B e 3 v l.length (flatE l)) (hl : l.length * 24 ≤ 140737488351232) : OpsIn w v l.length (fun i => l.getD i (0, 0, 0)) := by
  rcases h.2 with ⟨hv, h0⟩ | ⟨g, cap, cur, hv, hB, hg, h1, h2, h3, h4⟩
  · rw [h0]; exact ⟨none, 0, by rw [hv], by omega, .inl rfl⟩
  · refine ⟨some ⟨g, 0, none⟩, cap, hv, hl, .inr ⟨g, 0, rfl, fun i hi => ?_⟩⟩
    have fl : ∀ (l : List O3) (i : Nat), i < l.length → (flatE l)[i * 3]? = some (.int .i64 (l.getD i (0, 0, 0)).1) ∧ (flatE l)[i * 3 + 1]? = some (.int .i64 (l.getD i (0, 0, 0)).2.1) ∧ (flatE l)[i * 3 + 2]? = some (.int .i64 (l.getD i (0, 0, 0)).2.2) := by
      intro l
      induction l with
      | nil => intro i hi; simp at hi
      | cons x r ih =>
        intro i hi
        cases i with
        | zero => exact ⟨rfl, rfl, rfl⟩
        | succ i =>
          have := ih i (by simp at hi; omega)
          rw [show (i + 1) * 3 = i * 3 + 3 by omega, show i * 3 + 3 + 1 = (i * 3 + 1) + 3 by omega, show i * 3 + 3 + 2 = (i * 3 + 2) + 3 by omega]
          exact this
    have get : ∀ j u, j < l.length * 3 → (flatE l)[j]? = some u → w.cell? ⟨g, j, none⟩ = some u := by
      intro j u hj hu
      rw [cell_of_row w g j cur e (0, 0) hg]
      rw [← h4, List.getElem?_take, if_pos hj, Array.getElem?_toList] at hu
      exact hu
    obtain ⟨f0, f1, f2⟩ := fl l i hi
    refine ⟨?_, ?_, ?_⟩
    · rw [Nat.zero_add]; exact get _ _ (by omega) f0
    · rw [Nat.zero_add]; exact get _ _ (by omega) f1
    · rw [Nat.zero_add]; exact get _ _ (by omega) f2
theorem OpsIn.congr {w : World} {v : Value} {n : Nat} {f g : Nat → O3} (h : OpsIn w v n f) (e : ∀ i, i < n → f i = g i) : OpsIn w v n g := by
  obtain ⟨a, c, hv, hn, hc⟩ := h
  exact ⟨a, c, hv, hn, hc.imp id fun ⟨b, off, ha, hf⟩ => ⟨b, off, ha, fun i hi => e i hi ▸ hf i hi⟩⟩
theorem row_get {w : World} {B e : Nat} {v : Value} {n : Nat} {xs : List Value} (h : w.ownsRow B e 1 v n xs) (hn : 0 < n) : ∃ g cap, v = .slice (some ⟨g, 0, none⟩) n cap ∧ B ≤ g ∧ g < w.heap.size ∧ ∀ i u, xs[i]? = some u → w.cell? ⟨g, 0 + i, none⟩ = some u := by
  rcases h.2 with ⟨_, h0⟩ | ⟨g, cap, cur, hv, hB, hg, h1, h2, h3, h4⟩
  · omega
  refine ⟨g, cap, hv, hB, (Array.getElem?_eq_some_iff.1 hg).1, fun i u hu => ?_⟩
  rw [Nat.zero_add, cell_of_row w g i cur e (0, 0) hg]
  rw [← h4, List.getElem?_take] at hu
  split at hu
  · rwa [Array.getElem?_toList] at hu
  · cases hu


abbrev Hr := Value × List O3
/-- The program as it grows. -/
structure P1 (w : World) (B sb pb : Nat) (wr : World) (vt vf : Value) (tv fv : List Hr) : Prop where
  fr : Fr (fun _ => False) w wr (fun _ => False)
  pb_ : wr.heap[pb]? = some (.cells #[.slice (some ⟨sb, 0, none⟩) 4 4, vt, vf] 33)
  pbB : w.heap.size ≤ pb
  st : wr.heap[sb]? = some (.cells #[.int .i64 1, .int .i64 0, .int .i64 3, .int .i64 3, .int .i64 0, .int .i64 0, .int .i64 5, .int .i64 1, .int .i64 0, .int .i64 5, .int .i64 2, .int .i64 0] 70)
  sbB : w.heap.size ≤ sb ∧ sb < B
  tm : wr.ownsRow w.heap.size 31 1 vt tv.length (tv.map (·.1))
  fm : wr.ownsRow w.heap.size 31 1 vf fv.length (fv.map (·.1))
  th : ∀ p, p ∈ tv → wr.ownsRow B 70 3 p.1 p.2.length (flatE p.2)
  fh : ∀ p, p ∈ fv → wr.ownsRow B 70 3 p.1 p.2.length (flatE p.2)
  sep : ∀ q, own vt q → ¬ own vf q
section
variable {w wr : World} {B sb pb : Nat} {vt vf : Value} {tv fv : List Hr}
theorem row_c {W : World} {B e size n : Nat} {v : Value} {xs : List Value} (h : W.ownsRow B e size v n xs) {q : Nat} (hq : own v q) : ∃ cur, W.heap[q]? = some (.cells cur e (0, 0)) := by
  rcases h.2 with ⟨rfl, _⟩ | ⟨g, cap, cur, rfl, _, hg, _⟩
  · simp [own, Value.ownBlock] at hq
  · simp only [own, Value.ownBlock, Option.some.injEq] at hq
    subst hq
    exact ⟨cur, hg⟩
theorem P1.keep (h : P1 w B sb pb wr vt vf tv fv) {W : World} (hf : Fr (fun _ => False) wr W (fun _ => False)) : P1 w B sb pb W vt vf tv fv := by
  have e : ∀ {q o}, wr.heap[q]? = some o → W.heap[q]? = wr.heap[q]? := fun ho => hf.same _ (Array.getElem?_eq_some_iff.1 ho).1 (fun h => h)
  have er : ∀ {B e size n v xs}, wr.ownsRow B e size v n xs → W.ownsRow B e size v n xs := fun hr => ownsRow_of_block hr (fun q hq => by obtain ⟨c, hc⟩ := row_c hr hq; exact e hc)
  exact ⟨h.fr.trans hf, (e h.pb_).trans h.pb_, h.pbB, (e h.st).trans h.st, h.sbB, er h.tm, er h.fm, fun p hp => er (h.th p hp), fun p hp => er (h.fh p hp), h.sep⟩
/-- One handler of a timer more. -/
theorem P1.growT (h : P1 w B sb pb wr vt vf tv fv) {W : World} {vt' : Value} {p : Hr} (hp : wr.ownsRow B 70 3 p.1 p.2.length (flatE p.2)) (hr : W.ownsRow w.heap.size 31 1 vt' (tv.length + 1) (tv.map (·.1) ++ [p.1])) (hf : Fr (own vt) wr W (own vt')) :
    P1 w B sb pb (W.setCell ⟨pb, 1, none⟩ vt') vt' vf (tv ++ [p]) fv := by
  have lt : ∀ {q o}, wr.heap[q]? = some o → q < wr.heap.size := fun ho => (Array.getElem?_eq_some_iff.1 ho).1
  have nv : ∀ {q o}, wr.heap[q]? = some o → (∀ c, o ≠ .cells c 31 (0, 0)) → ¬ own vt q := fun ho hn hq => by obtain ⟨c, hc⟩ := row_c h.tm hq; rw [ho] at hc; injection hc with hc; exact hn c hc
  have pbW : W.heap[pb]? = some (.cells #[.slice (some ⟨sb, 0, none⟩) 4 4, vt, vf] 33) := (hf.same pb (lt h.pb_) (nv h.pb_ (fun c e => by cases e))).trans h.pb_
  have e : ∀ {q o}, wr.heap[q]? = some o → (∀ c, o ≠ .cells c 31 (0, 0)) → q ≠ pb → (W.setCell ⟨pb, 1, none⟩ vt').heap[q]? = wr.heap[q]? := fun ho hn hq => (Below.heap_setCell _ _ _ _ hq).trans (hf.same _ (lt ho) (nv ho hn))
  have nepb : ∀ {q c}, wr.heap[q]? = some (.cells c 70 (0, 0)) → q ≠ pb := fun ho e => by rw [e, h.pb_] at ho; cases ho
  have er : ∀ {B n v xs}, wr.ownsRow B 70 3 v n xs → (W.setCell ⟨pb, 1, none⟩ vt').ownsRow B 70 3 v n xs := fun hr => ownsRow_of_block hr (fun q hq => by obtain ⟨c, hc⟩ := row_c hr hq; exact e hc (fun c e => by cases e) (nepb hc))
  have vt'B : ∀ q, own vt' q → own vt q ∨ wr.heap.size ≤ q := fun q hq => by
    by_cases hlt : q < wr.heap.size
    · exact .inl (hf.old q hlt hq)
    · exact .inr (by omega)
  refine ⟨(h.fr.fresh hf (fun k hk => (World.ownsRow.lt h.tm k hk).1)).setCell _ _ (.inr h.pbB), ?_, h.pbB, (e h.st (fun c e => by cases e) (nepb h.st)).trans h.st, h.sbB, ?_, ?_, fun p' hp' => ?_, fun p' hp' => er (h.fh p' hp'), fun q hq hq' => ?_⟩
  · have h0 := setRow_heap W pb _ (#[.slice (some ⟨sb, 0, none⟩) 4 4, vt, vf].setIfInBounds 1 vt') 33 (0, 0) pbW
    rwa [← setCell_eq_setRow W pb 1 _ 33 (0, 0) vt' pbW] at h0
  · rw [List.length_append, List.map_append]
    refine ownsRow_of_block hr (fun q hq => Below.heap_setCell _ _ _ _ (fun e => ?_))
    obtain ⟨c, hc⟩ := row_c hr hq
    have e' : q = pb := e
    rw [e', pbW] at hc; cases hc
  · refine ownsRow_of_block h.fm (fun q hq => ?_)
    obtain ⟨c, hc⟩ := row_c h.fm hq
    have hne : q ≠ pb := fun e => by rw [e, h.pb_] at hc; cases hc
    exact (Below.heap_setCell _ _ _ _ hne).trans (hf.same q (lt hc) (fun hv => h.sep q hv hq))
  · rcases List.mem_append.1 hp' with hp' | hp'
    · exact er (h.th p' hp')
    · rw [List.mem_singleton.1 hp']; exact er hp
  · rcases vt'B q hq with h1 | h1
    · exact h.sep q h1 hq'
    · have := (World.ownsRow.lt h.fm q hq').2; omega
theorem P1.growF (h : P1 w B sb pb wr vt vf tv fv) {W : World} {vf' : Value} {p : Hr} (hp : wr.ownsRow B 70 3 p.1 p.2.length (flatE p.2)) (hr : W.ownsRow w.heap.size 31 1 vf' (fv.length + 1) (fv.map (·.1) ++ [p.1])) (hf : Fr (own vf) wr W (own vf')) :
    P1 w B sb pb (W.setCell ⟨pb, 2, none⟩ vf') vt vf' tv (fv ++ [p]) := by
  have lt : ∀ {q o}, wr.heap[q]? = some o → q < wr.heap.size := fun ho => (Array.getElem?_eq_some_iff.1 ho).1
  have nv : ∀ {q o}, wr.heap[q]? = some o → (∀ c, o ≠ .cells c 31 (0, 0)) → ¬ own vf q := fun ho hn hq => by obtain ⟨c, hc⟩ := row_c h.fm hq; rw [ho] at hc; injection hc with hc; exact hn c hc
  have pbW : W.heap[pb]? = some (.cells #[.slice (some ⟨sb, 0, none⟩) 4 4, vt, vf] 33) := (hf.same pb (lt h.pb_) (nv h.pb_ (fun c e => by cases e))).trans h.pb_
  have e : ∀ {q o}, wr.heap[q]? = some o → (∀ c, o ≠ .cells c 31 (0, 0)) → q ≠ pb → (W.setCell ⟨pb, 2, none⟩ vf').heap[q]? = wr.heap[q]? := fun ho hn hq => (Below.heap_setCell _ _ _ _ hq).trans (hf.same _ (lt ho) (nv ho hn))
  have nepb : ∀ {q c}, wr.heap[q]? = some (.cells c 70 (0, 0)) → q ≠ pb := fun ho e => by rw [e, h.pb_] at ho; cases ho
  have er : ∀ {B n v xs}, wr.ownsRow B 70 3 v n xs → (W.setCell ⟨pb, 2, none⟩ vf').ownsRow B 70 3 v n xs := fun hr => ownsRow_of_block hr (fun q hq => by obtain ⟨c, hc⟩ := row_c hr hq; exact e hc (fun c e => by cases e) (nepb hc))
  have vf'B : ∀ q, own vf' q → own vf q ∨ wr.heap.size ≤ q := fun q hq => by
    by_cases hlt : q < wr.heap.size
    · exact .inl (hf.old q hlt hq)
    · exact .inr (by omega)
  refine ⟨(h.fr.fresh hf (fun k hk => (World.ownsRow.lt h.fm k hk).1)).setCell _ _ (.inr h.pbB), ?_, h.pbB, (e h.st (fun c e => by cases e) (nepb h.st)).trans h.st, h.sbB, ?_, ?_, fun p' hp' => er (h.th p' hp'), fun p' hp' => ?_, fun q hq hq' => ?_⟩
  · have h0 := setRow_heap W pb _ (#[.slice (some ⟨sb, 0, none⟩) 4 4, vt, vf].setIfInBounds 2 vf') 33 (0, 0) pbW
    rwa [← setCell_eq_setRow W pb 2 _ 33 (0, 0) vf' pbW] at h0
  · refine ownsRow_of_block h.tm (fun q hq => ?_)
    obtain ⟨c, hc⟩ := row_c h.tm hq
    have hne : q ≠ pb := fun e => by rw [e, h.pb_] at hc; cases hc
    exact (Below.heap_setCell _ _ _ _ hne).trans (hf.same q (lt hc) (fun hv => h.sep q hq hv))
  · rw [List.length_append, List.map_append]
    refine ownsRow_of_block hr (fun q hq => Below.heap_setCell _ _ _ _ (fun e => ?_))
    obtain ⟨c, hc⟩ := row_c hr hq
    have e' : q = pb := e
    rw [e', pbW] at hc; cases hc
  · rcases List.mem_append.1 hp' with hp' | hp'
    · exact er (h.fh p' hp')
    · rw [List.mem_singleton.1 hp']; exact er hp
  · rcases vf'B q hq' with h1 | h1
    · exact h.sep q hq h1
    · have := (World.ownsRow.lt h.tm q hq).2; omega
end
end Go.Proofs.YtfmbebofllgmoaaGreatDoor
namespace Go.Proofs.YtfmbebofllgmoaaGreatDoor
open Go.RowKit
attribute [local go_sem ↓] Go.wp_at_zero Go.wp_at_succ

def KRel (w : World) (n0 N : Nat) (ln : Nat → Nat) (f : Nat → Nat → O3) (i : Value) (wr : World) : Prop := ∃ k : Nat, k ≤ 6 ∧ i = .int .i64 k ∧ ∃ at_ ct af cf tv fv, P1 w (n0 + 3) (n0 + 1 + 1) (n0 + 1) wr (.slice at_ ((k + 1) / 2) ct) (.slice af (k / 2) cf) tv fv ∧ tv.map (·.2) = (List.range ((k + 1) / 2)).map (fun i => hlK N ln f (2 * i)) ∧ fv.map (·.2) = (List.range (k / 2)).map (fun i => hlK N ln f (2 * i + 1))
theorem two_allocs (h : Array Obj) (a b : Obj) : ((h.push a).push b)[h.size]? = some a ∧ ((h.push a).push b)[h.size + 1]? = some b := by
  refine ⟨?_, ?_⟩
  · rw [Array.getElem?_push, if_neg (by simp), Array.getElem?_push, if_pos (by simp)]
  · rw [Array.getElem?_push, if_pos (by simp)]
/-- The handler of the k-th raw one. -/
theorem handK {wr : World} {N k : Nat} {ln : Nat → Nat} {f : Nat → Nat → O3} (v : Value) (hv : (k < N ∧ OpsIn wr v (ln k) (f k)) ∨ (¬ k < N ∧ v = .slice none 0 0)) (hin : ∀ i j, i < N → j < ln i → In3 (f i j)) :
    Calls Tryz.prog 35 #[v, .int .i64 3, .int .i64 3] wr fun e w' => ∃ a c, e = .returned (.slice a (lnK N ln k) c) ∧ w'.ownsRow wr.heap.size 70 3 (.slice a (lnK N ln k) c) (hlK N ln f k).length (flatE (hlK N ln f k)) ∧ Fr (fun _ => False) wr w' (fun _ => False) := by
  rw [hlK_len]
  unfold hlK
  rcases hv with ⟨hk, hv⟩ | ⟨hk, rfl⟩
  · have e : lnK N ln k = min (ln k) 8 := by unfold lnK; rw [if_pos hk]
    rw [e]
    exact handler_any hv (fun i hi => hin k i hk hi)
  · have e : lnK N ln k = min 0 8 := by unfold lnK; rw [if_neg hk]; rfl
    rw [e]
    exact handler_any (n := 0) (f := f k) ⟨none, 0, rfl, by omega, .inl rfl⟩ (fun i hi => by omega)

theorem P1.pbT {w wr W : World} {B sb pb : Nat} {vt vf v' : Value} {tv fv : List Hr} (h : P1 w B sb pb wr vt vf tv fv) (hf : Fr (own vt) wr W (own v')) : W.heap[pb]? = some (.cells #[.slice (some ⟨sb, 0, none⟩) 4 4, vt, vf] 33) :=
  (hf.same pb (Array.getElem?_eq_some_iff.1 h.pb_).1 (fun hq => by obtain ⟨c, hc⟩ := row_c h.tm hq; rw [h.pb_] at hc; cases hc)).trans h.pb_
theorem P1.pbF {w wr W : World} {B sb pb : Nat} {vt vf v' : Value} {tv fv : List Hr} (h : P1 w B sb pb wr vt vf tv fv) (hf : Fr (own vf) wr W (own v')) : W.heap[pb]? = some (.cells #[.slice (some ⟨sb, 0, none⟩) 4 4, vt, vf] 33) :=
  (hf.same pb (Array.getElem?_eq_some_iff.1 h.pb_).1 (fun hq => by obtain ⟨c, hc⟩ := row_c h.fm hq; rw [h.pb_] at hc; cases hc)).trans h.pb_
theorem rowLow {w : World} {B B' e size n : Nat} {v : Value} {xs : List Value} (h : w.ownsRow B e size v n xs) (hB : B' ≤ B) : w.ownsRow B' e size v n xs :=
  ⟨h.1, h.2.imp id fun ⟨g, cap, cur, e1, e2, r⟩ => ⟨g, cap, cur, e1, by omega, r⟩⟩
theorem cells_new1 (W : World) (g : Nat) (a : Value) (e : Nat) (hg : g = W.heap.size) : ∀ j u, [a][j]? = some u → (W.alloc (.cells #[a] e)).cell? (Addr.add ⟨g, 0, none⟩ j) = some u := by
  intro j u hj
  subst hg
  have h0 := heap_alloc_new W (.cells #[a] e)
  rcases j with _ | j
  · injection hj with hj; subst hj; exact cell_of_row _ _ 0 _ e (0, 0) h0
  · cases hj

theorem row_cellK {W : World} {B e size n : Nat} {v : Value} {xs : List Value} (h : W.ownsRow B e size v n xs) (hn : 0 < n) : ∃ g c, v = .slice (some ⟨g, 0, none⟩) n c ∧ B ≤ g ∧ g < W.heap.size ∧ ∀ j u, xs[j]? = some u → W.cell? ⟨g, j, none⟩ = some u := by
  rcases h.2 with ⟨_, h0⟩ | ⟨g, cap, cur, hv, hB, hg, h1, h2, h3, h4⟩
  · omega
  · refine ⟨g, cap, hv, hB, (Array.getElem?_eq_some_iff.1 hg).1, fun j u hj => ?_⟩
    rw [cell_of_row W g j cur e (0, 0) hg]
    have hlt := (List.getElem?_eq_some_iff.1 hj).1
    rw [← h4, List.getElem?_take_of_lt (by rw [← h4, List.length_take] at hlt; omega)] at hj
    simpa using hj
theorem flatE_len3 (l : List O3) : (flatE l).length = l.length * 3 := by
  induction l with
  | nil => rfl
  | cons x r ih => simp [flatE, ih]; omega
theorem flatE_one (l : List O3) : ∀ u ∈ flatE l, u.oneCell' = true := by
  induction l with
  | nil => intro u h; simp [flatE] at h
  | cons x r ih =>
    intro u h
    simp only [flatE, List.mem_cons] at h
    rcases h with rfl | rfl | rfl | h
    · rfl
    · rfl
    · rfl
    · exact ih u h
/-! ### What comes out -/
structure PEnd (w1 W : World) (vs vt vf : Value) (so : List O3) (tv fv : List Hr) : Prop where
  fr : Fr (fun _ => False) w1 W (fun _ => False)
  st : W.ownsRow w1.heap.size 70 3 vs so.length (flatE so)
  tm : W.ownsRow w1.heap.size 31 1 vt tv.length (tv.map (·.1))
  fm : W.ownsRow w1.heap.size 31 1 vf fv.length (fv.map (·.1))
  th : ∀ p, p ∈ tv → W.ownsRow w1.heap.size 70 3 p.1 p.2.length (flatE p.2)
  fh : ∀ p, p ∈ fv → W.ownsRow w1.heap.size 70 3 p.1 p.2.length (flatE p.2)
theorem P1.ends {w wr : World} {B sb pb : Nat} {vt vf : Value} {tv fv : List Hr} (h : P1 w B sb pb wr vt vf tv fv) : PEnd w wr (.slice (some ⟨sb, 0, none⟩) 4 4) vt vf startK tv fv :=
  ⟨h.fr, ⟨rfl, .inr ⟨sb, 4, _, rfl, h.sbB.1, h.st, Nat.le_refl _, by decide, rfl, rfl⟩⟩, h.tm, h.fm, fun p hp => rowLow (h.th p hp) (by have := h.sbB; omega), fun p hp => rowLow (h.fh p hp) (by have := h.sbB; omega)⟩
theorem P1.endsS {w wr W : World} {B sb pb : Nat} {vt vf v' : Value} {tv fv : List Hr} {l : List O3} (h : P1 w B sb pb wr vt vf tv fv) (hr : W.ownsRow w.heap.size 70 3 v' (4 + l.length) (flatE startK ++ flatE l)) (hf : Fr (own (.slice (some ⟨sb, 0, none⟩) 4 4)) wr W (own v')) :
    PEnd w (W.setCell ⟨pb, 0, none⟩ v') v' vt vf (startK ++ l) tv fv ∧ (W.setCell ⟨pb, 0, none⟩ v').heap[pb]? = some (.cells #[v', vt, vf] 33) ∧ W.heap[pb]? = some (.cells #[.slice (some ⟨sb, 0, none⟩) 4 4, vt, vf] 33) := by
  have ho : ∀ q, own (.slice (some ⟨sb, 0, none⟩) 4 4) q → q = sb := fun q hq => by simp only [own, Value.ownBlock, Option.some.injEq] at hq; exact hq.symm
  have hps : pb ≠ sb := fun e => by have := h.pb_; rw [e, h.st] at this; cases this
  have lt : ∀ {q o}, wr.heap[q]? = some o → q < wr.heap.size := fun ho => (Array.getElem?_eq_some_iff.1 ho).1
  have pbW : W.heap[pb]? = some (.cells #[.slice (some ⟨sb, 0, none⟩) 4 4, vt, vf] 33) := (hf.same pb (lt h.pb_) (fun e => hps (ho _ e))).trans h.pb_
  have er : ∀ {B e size n v xs}, wr.ownsRow B e size v n xs → (e ≠ 33) → (∀ q, own v q → q ≠ sb) → (W.setCell ⟨pb, 0, none⟩ v').ownsRow B e size v n xs := fun hr he hs => ownsRow_of_block hr (fun q hq => by
    obtain ⟨c, hc⟩ := row_c hr hq
    have hne : q ≠ pb := fun e' => by rw [e', h.pb_] at hc; injection hc with hc; injection hc with _ h33 _; exact he h33.symm
    exact (Below.heap_setCell _ _ _ _ hne).trans (hf.same q (lt hc) (fun e' => hs q hq (ho _ e'))))
  have h31 : ∀ {B size n v xs}, wr.ownsRow B 31 size v n xs → ∀ q, own v q → q ≠ sb := fun hr q hq e => by obtain ⟨c, hc⟩ := row_c hr hq; rw [e, h.st] at hc; cases hc
  have h70 : ∀ {size n v xs}, wr.ownsRow B 70 size v n xs → ∀ q, own v q → q ≠ sb := fun hr q hq e => by have := (World.ownsRow.lt hr q hq).1; have := h.sbB; omega
  refine ⟨⟨(h.fr.fresh hf (fun k hk => by rw [ho k hk]; exact h.sbB.1)).setCell _ _ (.inr h.pbB), ?_, er h.tm (by decide) (h31 h.tm), er h.fm (by decide) (h31 h.fm), fun p hp => rowLow (er (h.th p hp) (by decide) (h70 (h.th p hp))) (by have := h.sbB; omega), fun p hp => rowLow (er (h.fh p hp) (by decide) (h70 (h.fh p hp))) (by have := h.sbB; omega)⟩, ?_, pbW⟩
  · rw [List.length_append, flatE_append]
    refine ownsRow_of_block hr (fun q hq => Below.heap_setCell _ _ _ _ (fun e => ?_))
    obtain ⟨c, hc⟩ := row_c hr hq
    have e' : q = pb := e
    rw [e', pbW] at hc; cases hc
  · have h0 := setRow_heap W pb _ (#[.slice (some ⟨sb, 0, none⟩) 4 4, vt, vf].setIfInBounds 0 v') 33 (0, 0) pbW
    rwa [← setCell_eq_setRow W pb 0 _ 33 (0, 0) v' pbW] at h0
theorem PEnd.keep {w1 W W' : World} {vs vt vf : Value} {so : List O3} {tv fv : List Hr} (h : PEnd w1 W vs vt vf so tv fv) (hb : ∀ q, w1.heap.size ≤ q → q < W.heap.size → W'.heap[q]? = W.heap[q]?) : W'.ownsRow w1.heap.size 70 3 vs so.length (flatE so) ∧ W'.ownsRow w1.heap.size 31 1 vt tv.length (tv.map (·.1)) ∧ W'.ownsRow w1.heap.size 31 1 vf fv.length (fv.map (·.1)) ∧ (∀ p, p ∈ tv → W'.ownsRow w1.heap.size 70 3 p.1 p.2.length (flatE p.2)) ∧ (∀ p, p ∈ fv → W'.ownsRow w1.heap.size 70 3 p.1 p.2.length (flatE p.2)) := by
  have er : ∀ {e size n v xs}, W.ownsRow w1.heap.size e size v n xs → W'.ownsRow w1.heap.size e size v n xs := fun hr => ownsRow_of_block hr (fun q hq => hb q (World.ownsRow.lt hr q hq).1 (World.ownsRow.lt hr q hq).2)
  exact ⟨er h.st, er h.tm, er h.fm, fun p hp => er (h.th p hp), fun p hp => er (h.fh p hp)⟩
theorem handsOf {W : World} {B : Nat} {v : Value} {tv : List Hr} {N : Nat} {ln : Nat → Nat} {f : Nat → Nat → O3} {g : Nat → Nat} (tm : W.ownsRow B 31 1 v 3 (tv.map (·.1))) (th : ∀ p, p ∈ tv → W.ownsRow B 70 3 p.1 p.2.length (flatE p.2)) (ht : tv.map (·.2) = (List.range 3).map (fun i => hlK N ln f (g i))) :
    HandsIn W v 3 (fun i => lnK N ln (g i)) (fun i j => hdO j (f (g i) j)) := by
  obtain ⟨q, cap, hv, _, _, hc⟩ := row_get tm (by omega)
  refine ⟨_, cap, hv, by omega, .inr ⟨q, 0, rfl, fun i hi => ?_⟩⟩
  have hl : tv.length = 3 := by have := congrArg List.length ht; simpa using this
  have h1 : tv[i]? = some (tv[i]'(by omega)) := List.getElem?_eq_getElem (by omega)
  have h2 : (tv[i]'(by omega)).2 = hlK N ln f (g i) := by
    have e := congrArg (fun l : List (List O3) => l[i]?) ht
    simp only [List.getElem?_map, h1, List.getElem?_range hi, Option.map_some] at e
    injection e
  refine ⟨(tv[i]'(by omega)).1, hc i _ (by rw [List.getElem?_map, h1]; rfl), ?_⟩
  have h3 := th _ (List.getElem_mem (l := tv) (n := i) (by omega))
  rw [h2] at h3
  have h4 := row_ops' h3 (by rw [hlK_len]; have := lnK_le N ln (g i); omega)
  rw [hlK_len] at h4
  exact h4.congr (fun j hj => hdL_get _ _ _ hj)
theorem PEnd.pgAt {w1 W W' : World} {vs vt vf : Value} {tv fv : List Hr} {N : Nat} {ln : Nat → Nat} {f : Nat → Nat → O3} (h : PEnd w1 W vs vt vf (startK ++ hlK N ln f 6) tv fv) (hb : ∀ q, w1.heap.size ≤ q → q < W.heap.size → W'.heap[q]? = W.heap[q]?) (ht : tv.map (·.2) = (List.range 3).map (fun i => hlK N ln f (2 * i))) (hfl : fv.map (·.2) = (List.range 3).map (fun i => hlK N ln f (2 * i + 1))) :
    PgAt W' (pvOf vs vt vf undef) (pgK N ln f) := by
  obtain ⟨h1, h2, h3, h4, h5⟩ := h.keep hb
  have l1 : tv.length = 3 := by have := congrArg List.length ht; simpa using this
  have l2 : fv.length = 3 := by have := congrArg List.length hfl; simpa using this
  rw [l1] at h2
  rw [l2] at h3
  refine ⟨?_, handsOf (g := fun i => 2 * i) h2 h4 ht, handsOf (g := fun i => 2 * i + 1) h3 h5 hfl⟩
  have e : (startK ++ hlK N ln f 6).length = 4 + lnK N ln 6 := by rw [List.length_append, hlK_len]; rfl
  have h6 := row_ops' h1 (by rw [e]; have := lnK_le N ln 6; omega)
  rw [e] at h6
  exact h6

set_option maxHeartbeats 4000000 in
set_option maxRecDepth 20000 in
theorem kprogram_any {w : World} {v : Value} {N : Nat} {ln : Nat → Nat} {f : Nat → Nat → O3} (h : HandsIn w v N ln f) (hin : ∀ i j, i < N → j < ln i → In3 (f i j)) :
    Calls Tryz.prog 21 #[v] w fun e w' => ∃ v0 v1 v2, e = .returned (.agg #[v0, v1, v2]) ∧ (∀ W' : World, (∀ q, w.heap.size ≤ q → q < w'.heap.size → W'.heap[q]? = w'.heap[q]?) → PgAt W' (pvOf v0 v1 v2 undef) (pgK N ln f)) ∧ Fr (fun _ => False) w w' (fun _ => False) := by
  obtain ⟨a, c, rfl, hn, hf⟩ := h
  have HF := hide hf
  have HIN := hide hin
  clear hf hin
  go_enter Tryz.func21, Tryz.ntmps21
  go_wp2
  have hst : KRel (w.alloc (.cells #[.slice none 0 0, .slice none 0 0, .slice none 0 0] 33)) w.heap.size N ln f (.int .i64 (0 : Nat)) (((w.alloc (.cells #[.slice none 0 0, .slice none 0 0, .slice none 0 0] 33)).alloc (.cells #[.slice (some ⟨w.heap.size + 1 + 1, 0, none⟩) 4 4, .slice none 0 0, .slice none 0 0] 33)).alloc (.cells #[.int .i64 1, .int .i64 0, .int .i64 3, .int .i64 3, .int .i64 0, .int .i64 0, .int .i64 5, .int .i64 1, .int .i64 0, .int .i64 5, .int .i64 2, .int .i64 0] 70)) := by
    have hz : (w.alloc (.cells #[.slice none 0 0, .slice none 0 0, .slice none 0 0] 33)).heap.size = w.heap.size + 1 := by simp
    obtain ⟨t0, t1⟩ := two_allocs (w.alloc (.cells #[.slice none 0 0, .slice none 0 0, .slice none 0 0] 33)).heap (.cells #[.slice (some ⟨w.heap.size + 1 + 1, 0, none⟩) 4 4, .slice none 0 0, .slice none 0 0] 33) (.cells #[.int .i64 1, .int .i64 0, .int .i64 3, .int .i64 3, .int .i64 0, .int .i64 0, .int .i64 5, .int .i64 1, .int .i64 0, .int .i64 5, .int .i64 2, .int .i64 0] 70)
    rw [hz] at t0 t1
    exact ⟨0, by omega, rfl, none, 0, none, 0, [], [], ⟨((Fr.refl _ _).alloc _).alloc _, t0, by omega, t1, ⟨by omega, by omega⟩, World.ownsRow_nil _ _ _ _, World.ownsRow_nil _ _ _ _, fun _ h => absurd h (by simp), fun _ h => absurd h (by simp), fun q h => by simp [own, Value.ownBlock] at h⟩, rfl, rfl⟩
  have hrow : (w.alloc (.cells #[.slice none 0 0, .slice none 0 0, .slice none 0 0] 33)).heap[w.heap.size]? = some (.cells #[.slice none 0 0, .slice none 0 0, .slice none 0 0] 33) := heap_alloc_new _ _
  have hfw : Fr (fun _ => False) w (w.alloc (.cells #[.slice none 0 0, .slice none 0 0, .slice none 0 0] 33)) (fun _ => False) := (Fr.refl _ _).alloc _
  have hz1 : (w.alloc (.cells #[.slice none 0 0, .slice none 0 0, .slice none 0 0] 33)).heap.size = w.heap.size + 1 := by simp
  generalize hw1 : w.alloc (.cells #[.slice none 0 0, .slice none 0 0, .slice none 0 0] 33) = w1 at *
  have HST := hide hst
  have HROW := hide hrow
  have HFW := hide hfw
  have HZ1 := hide hz1
  clear hst hrow hfw hz1 hw1
  go_loopw [4] (fun i wr => KRel w1 w.heap.size N ln f i wr) (fun i _ => 6 - (intOf i).toNat)
  case atStart => exact unhide HST
  case round =>
    obtain ⟨k, hk, rfl, at_, ct, af, cf, tv, fv, hp, ht, hfl⟩ := hrel
    have HLOW := hide (show w.heap.size + 3 ≤ wr.heap.size by have := (Array.getElem?_eq_some_iff.1 hp.st).1; omega)
    have HTL := hide (show tv.length = (k + 1) / 2 by have := congrArg List.length ht; simpa using this)
    have HFLL := hide (show fv.length = k / 2 by have := congrArg List.length hfl; simpa using this)
    have HP := hide hp
    have HT := hide ht
    have HFL := hide hfl
    clear hp ht hfl
    by_cases hk6 : k < 6
    · have hk6' : (k : Int) < 6 := by omega
      have hk0 : (0 : Int) ≤ (k : Int) := by omega
      by_cases hkN : k < N
      · rcases unhide HF with hz | ⟨b, off, rfl, hf⟩
        · omega
        obtain ⟨vi, hvi, hop⟩ := hf k hkN
        have hb : b < w.heap.size := World.block_lt_of_cell? w _ hvi
        have hfr := (unhide HFW).trans (unhide HP).fr
        have hci := (hfr.cell b (off + k) hb (fun h => h)).trans hvi
        have hopr : OpsIn wr vi (ln k) (f k) := opsIn_below (hfr.below (B := w.heap.size) (fun k hk => hk.elim) (Nat.le_refl _)) hop
        obtain ⟨va, vc, rfl, _⟩ := hop
        have H35 := hide (handK (.slice va (ln k) vc) (.inl ⟨hkN, hopr⟩) (unhide HIN))
        have hkN' : (k : Int) < (N : Int) := by omega
        clear hf hvi hfr hopr
        by_cases hm : k % 2 = 0
        · have hm2 : (((k : Int).tmod 2) == 0) = true := by rw [Int.tmod_eq_emod_of_nonneg (by omega)]; simp; omega
          go_wp2_with (first
            | (go_at_call 35; refine (unhide H35).mono ?_; rintro e w2 ⟨ha, hc, rfl, r2, f2⟩; have p2 := (unhide HP).keep f2; have c2 := fun j => cell_of_row w2 _ j _ 33 (0, 0) p2.pb_; have P2 := hide p2; have R2 := hide r2; clear p2 r2 f2)
            | (at_builtin; refine wpList_grow elemH (by omega) (by omega) (B := w1.heap.size) (n := tv.length) (m := 1) (xs := tv.map (·.1)) (news := [.slice ha (lnK N ln k) hc]) rfl (.tmp 31) (.tmp 33) rfl (ad := ⟨w2.heap.size, 0, none⟩) (cap := 1) rfl rfl ((unhide P2).tm.alloc _) rfl (cells_new1 _ _ _ _ rfl) (by simp [Value.oneCell']) (by omega) (by rw [unhide HTL]; omega) (by have := (unhide P2).fr.size; simp; omega) ?_; intro v3 w3 o3 f3 sh3; obtain ⟨a3, c3, rfl⟩ := sh3; have pr := ((unhide P2).keep ((Fr.refl _ _).alloc _)).pbT f3; have pc := fun j => cell_of_row w3 _ j _ 33 (0, 0) pr; have pz := fun j => frozen_rowE pr j; clear pr))
          go_roundw
          case rel =>
            have hlow : w.heap.size + 3 ≤ wr.heap.size := unhide HLOW
            have g := ((unhide P2).keep ((Fr.refl _ _).alloc (.cells #[.slice ha (lnK N ln k) hc] 31))).growT (p := (.slice ha (lnK N ln k) hc, hlK N ln f k)) (rowLow ((unhide R2).alloc _) hlow) o3 f3
            have htl := unhide HTL
            have hfll := unhide HFLL
            have eT : (k + 1 + 1) / 2 = tv.length + 1 := by omega
            have eF : (k + 1) / 2 = k / 2 := by omega
            refine ⟨k + 1, by omega, by go_num, a3, c3, af, cf, tv ++ [(.slice ha (lnK N ln k) hc, hlK N ln f k)], fv, (by rw [eT, eF]; exact g), ?_, ?_⟩
            · rw [eT, List.range_succ, List.map_append, List.map_append, unhide HT, htl]
              show _ ++ [hlK N ln f k] = _ ++ [hlK N ln f (2 * ((k + 1) / 2))]
              rw [show 2 * ((k + 1) / 2) = k by omega]
            · rw [eF]; exact unhide HFL
          case measure => simp [intOf]; omega
        · have hm2 : (((k : Int).tmod 2) == 0) = false := by rw [Int.tmod_eq_emod_of_nonneg (by omega)]; simp; omega
          go_wp2_with (first
            | (go_at_call 35; refine (unhide H35).mono ?_; rintro e w2 ⟨ha, hc, rfl, r2, f2⟩; have p2 := (unhide HP).keep f2; have c2 := fun j => cell_of_row w2 _ j _ 33 (0, 0) p2.pb_; have P2 := hide p2; have R2 := hide r2; clear p2 r2 f2)
            | (at_builtin; refine wpList_grow elemH (by omega) (by omega) (B := w1.heap.size) (n := fv.length) (m := 1) (xs := fv.map (·.1)) (news := [.slice ha (lnK N ln k) hc]) rfl (.tmp 37) (.tmp 39) rfl (ad := ⟨w2.heap.size, 0, none⟩) (cap := 1) rfl rfl ((unhide P2).fm.alloc _) rfl (cells_new1 _ _ _ _ rfl) (by simp [Value.oneCell']) (by omega) (by rw [unhide HFLL]; omega) (by have := (unhide P2).fr.size; simp; omega) ?_; intro v3 w3 o3 f3 sh3; obtain ⟨a3, c3, rfl⟩ := sh3; have pr := ((unhide P2).keep ((Fr.refl _ _).alloc _)).pbF f3; have pc := fun j => cell_of_row w3 _ j _ 33 (0, 0) pr; have pz := fun j => frozen_rowE pr j; clear pr))
          go_roundw
          case rel =>
            have hlow : w.heap.size + 3 ≤ wr.heap.size := unhide HLOW
            have g := ((unhide P2).keep ((Fr.refl _ _).alloc (.cells #[.slice ha (lnK N ln k) hc] 31))).growF (p := (.slice ha (lnK N ln k) hc, hlK N ln f k)) (rowLow ((unhide R2).alloc _) hlow) o3 f3
            have htl := unhide HTL
            have hfll := unhide HFLL
            have eT : (k + 1 + 1) / 2 = (k + 1) / 2 := by omega
            have eF : (k + 1) / 2 = fv.length + 1 := by omega
            refine ⟨k + 1, by omega, by go_num, at_, ct, a3, c3, tv, fv ++ [(.slice ha (lnK N ln k) hc, hlK N ln f k)], (by rw [eT, show Value.slice a3 ((k + 1) / 2) c3 = .slice a3 (fv.length + 1) c3 by rw [eF]]; exact g), ?_, ?_⟩
            · rw [eT]; exact unhide HT
            · rw [eF, List.range_succ, List.map_append, List.map_append, unhide HFL, hfll]
              show _ ++ [hlK N ln f k] = _ ++ [hlK N ln f (2 * (k / 2) + 1)]
              rw [show 2 * (k / 2) + 1 = k by omega]
          case measure => simp [intOf]; omega
      · have H35 := hide (handK (wr := wr) (N := N) (k := k) (ln := ln) (f := f) (.slice none 0 0) (.inr ⟨hkN, rfl⟩) (unhide HIN))
        have hkN' : ¬ (k : Int) < (N : Int) := by omega
        by_cases hm : k % 2 = 0
        · have hm2 : (((k : Int).tmod 2) == 0) = true := by rw [Int.tmod_eq_emod_of_nonneg (by omega)]; simp; omega
          go_wp2_with (first
            | (go_at_call 35; refine (unhide H35).mono ?_; rintro e w2 ⟨ha, hc, rfl, r2, f2⟩; have p2 := (unhide HP).keep f2; have c2 := fun j => cell_of_row w2 _ j _ 33 (0, 0) p2.pb_; have P2 := hide p2; have R2 := hide r2; clear p2 r2 f2)
            | (at_builtin; refine wpList_grow elemH (by omega) (by omega) (B := w1.heap.size) (n := tv.length) (m := 1) (xs := tv.map (·.1)) (news := [.slice ha (lnK N ln k) hc]) rfl (.tmp 31) (.tmp 33) rfl (ad := ⟨w2.heap.size, 0, none⟩) (cap := 1) rfl rfl ((unhide P2).tm.alloc _) rfl (cells_new1 _ _ _ _ rfl) (by simp [Value.oneCell']) (by omega) (by rw [unhide HTL]; omega) (by have := (unhide P2).fr.size; simp; omega) ?_; intro v3 w3 o3 f3 sh3; obtain ⟨a3, c3, rfl⟩ := sh3; have pr := ((unhide P2).keep ((Fr.refl _ _).alloc _)).pbT f3; have pc := fun j => cell_of_row w3 _ j _ 33 (0, 0) pr; have pz := fun j => frozen_rowE pr j; clear pr))
          go_roundw
          case rel =>
            have hlow : w.heap.size + 3 ≤ wr.heap.size := unhide HLOW
            have g := ((unhide P2).keep ((Fr.refl _ _).alloc (.cells #[.slice ha (lnK N ln k) hc] 31))).growT (p := (.slice ha (lnK N ln k) hc, hlK N ln f k)) (rowLow ((unhide R2).alloc _) hlow) o3 f3
            have htl := unhide HTL
            have hfll := unhide HFLL
            have eT : (k + 1 + 1) / 2 = tv.length + 1 := by omega
            have eF : (k + 1) / 2 = k / 2 := by omega
            refine ⟨k + 1, by omega, by go_num, a3, c3, af, cf, tv ++ [(.slice ha (lnK N ln k) hc, hlK N ln f k)], fv, (by rw [eT, eF]; exact g), ?_, ?_⟩
            · rw [eT, List.range_succ, List.map_append, List.map_append, unhide HT, htl]
              show _ ++ [hlK N ln f k] = _ ++ [hlK N ln f (2 * ((k + 1) / 2))]
              rw [show 2 * ((k + 1) / 2) = k by omega]
            · rw [eF]; exact unhide HFL
          case measure => simp [intOf]; omega
        · have hm2 : (((k : Int).tmod 2) == 0) = false := by rw [Int.tmod_eq_emod_of_nonneg (by omega)]; simp; omega
          go_wp2_with (first
            | (go_at_call 35; refine (unhide H35).mono ?_; rintro e w2 ⟨ha, hc, rfl, r2, f2⟩; have p2 := (unhide HP).keep f2; have c2 := fun j => cell_of_row w2 _ j _ 33 (0, 0) p2.pb_; have P2 := hide p2; have R2 := hide r2; clear p2 r2 f2)
            | (at_builtin; refine wpList_grow elemH (by omega) (by omega) (B := w1.heap.size) (n := fv.length) (m := 1) (xs := fv.map (·.1)) (news := [.slice ha (lnK N ln k) hc]) rfl (.tmp 37) (.tmp 39) rfl (ad := ⟨w2.heap.size, 0, none⟩) (cap := 1) rfl rfl ((unhide P2).fm.alloc _) rfl (cells_new1 _ _ _ _ rfl) (by simp [Value.oneCell']) (by omega) (by rw [unhide HFLL]; omega) (by have := (unhide P2).fr.size; simp; omega) ?_; intro v3 w3 o3 f3 sh3; obtain ⟨a3, c3, rfl⟩ := sh3; have pr := ((unhide P2).keep ((Fr.refl _ _).alloc _)).pbF f3; have pc := fun j => cell_of_row w3 _ j _ 33 (0, 0) pr; have pz := fun j => frozen_rowE pr j; clear pr))
          go_roundw
          case rel =>
            have hlow : w.heap.size + 3 ≤ wr.heap.size := unhide HLOW
            have g := ((unhide P2).keep ((Fr.refl _ _).alloc (.cells #[.slice ha (lnK N ln k) hc] 31))).growF (p := (.slice ha (lnK N ln k) hc, hlK N ln f k)) (rowLow ((unhide R2).alloc _) hlow) o3 f3
            have htl := unhide HTL
            have hfll := unhide HFLL
            have eT : (k + 1 + 1) / 2 = (k + 1) / 2 := by omega
            have eF : (k + 1) / 2 = fv.length + 1 := by omega
            refine ⟨k + 1, by omega, by go_num, at_, ct, a3, c3, tv, fv ++ [(.slice ha (lnK N ln k) hc, hlK N ln f k)], (by rw [eT, show Value.slice a3 ((k + 1) / 2) c3 = .slice a3 (fv.length + 1) c3 by rw [eF]]; exact g), ?_, ?_⟩
            · rw [eT]; exact unhide HT
            · rw [eF, List.range_succ, List.map_append, List.map_append, unhide HFL, hfll]
              show _ ++ [hlK N ln f k] = _ ++ [hlK N ln f (2 * (k / 2) + 1)]
              rw [show 2 * (k / 2) + 1 = k by omega]
          case measure => simp [intOf]; omega
    · have hk6e : k = 6 := by omega
      subst hk6e
      change Hid (P1 _ _ _ _ _ (.slice at_ 3 ct) (.slice af 3 cf) _ _) at HP
      change Hid (_ = (List.range 3).map _) at HT
      change Hid (_ = (List.range 3).map _) at HFL
      have c3 := fun j => cell_of_row wr _ j _ 33 (0, 0) (unhide HP).pb_
      have z3 := fun j => frozen_rowE (unhide HP).pb_ j
      by_cases hN6 : 6 < N
      · rcases unhide HF with hz | ⟨b, off, rfl, hf⟩
        · omega
        obtain ⟨vi, hvi, hop⟩ := hf 6 hN6
        have hb : b < w.heap.size := World.block_lt_of_cell? w _ hvi
        have hfr := (unhide HFW).trans (unhide HP).fr
        have hci := (hfr.cell b (off + 6) hb (fun h => h)).trans hvi
        have hopr : OpsIn wr.drew vi (ln 6) (f 6) := opsIn_below (hfr.drew.below (B := w.heap.size) (fun k hk => hk.elim) (Nat.le_refl _)) hop
        obtain ⟨va, vc, rfl, _⟩ := hop
        have H35 := hide (handK (.slice va (ln 6) vc) (.inl ⟨hN6, hopr⟩) (unhide HIN))
        have hN6' : (6 : Int) < (N : Int) := by omega
        have hlen := hlK_len N ln f 6
        have HFR := hide hfr
        clear hf hvi hopr hfr
        go_wp2
        have c30 : wr.cell? ⟨w.heap.size + 1, 0, none⟩ = some (.slice (some ⟨w.heap.size + 1 + 1, 0, none⟩) 4 4) := c3 0
        refine wp_region_held_drew (S := fun w' => w'.cell? ⟨b, off + 6, none⟩ = some (.slice va (ln 6) vc)) (by kernel_rfl) ?_ (fun hHeld => ?_)
        · exact hci
        refine take_yes (i := 0) (d := 45) (v := ?_) (fuel := 8) rfl rfl (by kernel_rfl) (by kernel_rfl) (by kernel_rfl) (fun _ _ _ h => h) (by rfl) ?_ (by assumption) ?_
        rotate_left
        · intro w hSw; (try dsimp only at hSw); go_simp; try with_reducible rfl
        simp only [List.setIfInBounds_toArray, List.set_cons_zero, List.set_cons_succ]
        refine take_yes (i := 2) (d := 47) (v := ?_) (fuel := 7) rfl rfl (by kernel_rfl) (by kernel_rfl) (by kernel_rfl) (fun _ _ _ h => h) (by rfl) ?_ (by assumption) ?_
        rotate_left
        · intro w hSw; (try dsimp only at hSw); go_simp; try with_reducible rfl
        simp only [List.setIfInBounds_toArray, List.set_cons_zero, List.set_cons_succ]
        refine take_yes (i := 3) (d := 48) (v := ?_) (fuel := 6) rfl rfl (by kernel_rfl) (by kernel_rfl) (by kernel_rfl) (fun _ _ _ h => h) (by rfl) ?_ (by assumption) ?_
        rotate_left
        · intro w hSw; (try dsimp only at hSw); go_simp; try with_reducible rfl
        simp only [List.setIfInBounds_toArray, List.set_cons_zero, List.set_cons_succ]
        refine take_yes (i := 4) (d := 49) (v := ?_) (fuel := 5) rfl rfl (by kernel_rfl) (by kernel_rfl) (by kernel_rfl) (fun _ _ _ h => h) (by rfl) ?_ (by assumption) ?_
        rotate_left
        · intro w hSw; (try dsimp only at hSw); go_simp; try with_reducible rfl
        simp only [List.setIfInBounds_toArray, List.set_cons_zero, List.set_cons_succ]
        refine wpAnyH_ready (rs := [1, 5]) (by kernel_rfl) (by simp) ?_
        refine (AllReadyH.cons rfl (fun K' hK' => ?_) (AllReadyH.cons rfl (fun K' hK' => ?_) AllReadyH.nil))
        · go_simp
          refine hK'.out _ _ (by exact hci) (fun hHeld => ?_)
          clear hK' K'
          try simp only [List.setIfInBounds_toArray, List.set_cons_zero, List.set_cons_succ]
          refine wpAnyH_ready (rs := [5]) (by kernel_rfl) (by simp) ?_
          refine (AllReadyH.cons rfl (fun K' hK' => ?_) AllReadyH.nil)
          go_simp
          go_at_call 35
          refine (unhide H35).mono ?_
          rintro _ w2 ⟨ha, hc, rfl, r2, f2⟩
          have p2 := (unhide HP).keep (Fr.nilF f2)
          have hc0 : w2.cell? ⟨w.heap.size + 1, 0, none⟩ = some (.slice (some ⟨w.heap.size + 1 + 1, 0, none⟩) 4 4) := cell_of_row w2 _ 0 _ 33 (0, 0) p2.pb_
          have hc1 : w2.cell? ⟨b, off + 6, none⟩ = some (.slice va (ln 6) vc) := (f2.cell b (off + 6) (Nat.lt_of_lt_of_le hb (unhide HFR).size) (fun h => h)).trans hci
          refine hK'.out _ _ hc1 (fun hHeld => ?_)
          clear hK' K'
          try simp only [List.setIfInBounds_toArray, List.set_cons_zero, List.set_cons_succ]
          have P2 := hide p2
          have R2 := hide r2
          clear p2 r2 f2
          refine wpAnyH_ready (rs := [6]) (by kernel_rfl) (by simp) ?_
          refine (AllReadyH.cons rfl (fun K' hK' => ?_) AllReadyH.nil)
          by_cases hm0 : lnK N ln 6 = 0
          · have hl0 : hlK N ln f 6 = [] := List.eq_nil_of_length_eq_zero (by rw [hlen]; exact hm0)
            obtain ⟨q1, q2, q3⟩ := (unhide P2).endsS (l := hlK N ln f 6) (W := w2) (v' := .slice (some ⟨w.heap.size + 1 + 1, 0, none⟩) 4 4) (by rw [hl0]; exact (unhide P2).ends.st) (Fr.refl _ _)
            have u3 := fun j => cell_of_row w2 _ j _ 33 (0, 0) q3
            have uz := fun j => frozen_rowE q3 j
            have hnb : b ≠ w.heap.size + 1 := by omega
            have HQ1 := hide q1
            have HQ2 := hide q2
            clear q1 q2 q3 hl0
            simp only [hm0]
            rcases ha with _ | ⟨hab, hao, ham⟩
            · go_simp
              refine hK'.out _ _ hc1 (fun hHeld => ?_)
              clear hK' K'
              try simp only [List.setIfInBounds_toArray, List.set_cons_zero, List.set_cons_succ]
              refine take_yes (i := 7) (d := 52) (v := ?_) (fuel := 1) rfl rfl (by kernel_rfl) (by kernel_rfl) (by kernel_rfl) (fun _ _ _ h => h) (by rfl) ?_ (by assumption) ?_
              rotate_left
              · intro w hSw; (try dsimp only at hSw); go_simp; try with_reducible rfl
              simp only [List.setIfInBounds_toArray, List.set_cons_zero, List.set_cons_succ]
              refine wpAnyH_ready (rs := [8]) (by kernel_rfl) (by simp) ?_
              refine (AllReadyH.cons rfl (fun K' hK' => ?_) AllReadyH.nil)
              go_simp
              refine hK'.out _ _ ?_ (fun hHeld => ?_)
              · exact (World.cell?_of_block (w := w2) (a := ⟨b, off + 6, none⟩) (Below.heap_setCell _ _ _ _ hnb)).trans hc1
              clear hK' K'
              try simp only [List.setIfInBounds_toArray, List.set_cons_zero, List.set_cons_succ]
              refine wpAnyH_done (by kernel_rfl) ?_ _
              generalize hW4 : w2.setCell ⟨w.heap.size + 1, 0, none⟩ (.slice (some ⟨w.heap.size + 1 + 1, 0, none⟩) 4 4) = W4 at *
              have v4 := fun j => cell_of_row W4 _ j _ 33 (0, 0) (unhide HQ2)
              clear u3 uz hW4
              have zr := ((unhide HQ1).fr.same w.heap.size (by have := unhide HZ1; omega) (fun h => h)).trans (unhide HROW)
              have zc := fun j => cell_of_row W4 _ j _ 33 (0, 0) zr
              have zz := fun j => frozen_rowE zr j
              clear zr
              go_wp2
              have hz9 := unhide HZ1
              refine bodyPost_ret (v := .agg #[.slice (some ⟨w.heap.size + 1 + 1, 0, none⟩) 4 4, .slice at_ 3 ct, .slice af 3 cf]) (by simp [results, Tryz.results21, go_sem, zc]) rfl ⟨_, _, _, rfl, fun W9 hW9 => (unhide HQ1).pgAt (fun q hq hql => (hW9 q (by omega) (by simpa [World.setCell] using hql)).trans ?_) (unhide HT) (unhide HFL), ?_⟩
              · rw [Below.heap_setCell _ _ _ _ (by simp; omega), Below.heap_setCell _ _ _ _ (by simp; omega), Below.heap_setCell _ _ _ _ (by simp; omega)]
              · exact (((((unhide HFW).trans (unhide HQ1).fr).setCell _ _ (.inr (Nat.le_refl _))).setCell _ _ (.inr (Nat.le_refl _))).setCell _ _ (.inr (Nat.le_refl _)))
            · go_simp
              refine hK'.out _ _ hc1 (fun hHeld => ?_)
              clear hK' K'
              try simp only [List.setIfInBounds_toArray, List.set_cons_zero, List.set_cons_succ]
              refine take_yes (i := 7) (d := 52) (v := ?_) (fuel := 1) rfl rfl (by kernel_rfl) (by kernel_rfl) (by kernel_rfl) (fun _ _ _ h => h) (by rfl) ?_ (by assumption) ?_
              rotate_left
              · intro w hSw; (try dsimp only at hSw); go_simp; try with_reducible rfl
              simp only [List.setIfInBounds_toArray, List.set_cons_zero, List.set_cons_succ]
              refine wpAnyH_ready (rs := [8]) (by kernel_rfl) (by simp) ?_
              refine (AllReadyH.cons rfl (fun K' hK' => ?_) AllReadyH.nil)
              go_simp
              refine hK'.out _ _ ?_ (fun hHeld => ?_)
              · exact (World.cell?_of_block (w := w2) (a := ⟨b, off + 6, none⟩) (Below.heap_setCell _ _ _ _ hnb)).trans hc1
              clear hK' K'
              try simp only [List.setIfInBounds_toArray, List.set_cons_zero, List.set_cons_succ]
              refine wpAnyH_done (by kernel_rfl) ?_ _
              generalize hW4 : w2.setCell ⟨w.heap.size + 1, 0, none⟩ (.slice (some ⟨w.heap.size + 1 + 1, 0, none⟩) 4 4) = W4 at *
              have v4 := fun j => cell_of_row W4 _ j _ 33 (0, 0) (unhide HQ2)
              clear u3 uz hW4
              have zr := ((unhide HQ1).fr.same w.heap.size (by have := unhide HZ1; omega) (fun h => h)).trans (unhide HROW)
              have zc := fun j => cell_of_row W4 _ j _ 33 (0, 0) zr
              have zz := fun j => frozen_rowE zr j
              clear zr
              go_wp2
              have hz9 := unhide HZ1
              refine bodyPost_ret (v := .agg #[.slice (some ⟨w.heap.size + 1 + 1, 0, none⟩) 4 4, .slice at_ 3 ct, .slice af 3 cf]) (by simp [results, Tryz.results21, go_sem, zc]) rfl ⟨_, _, _, rfl, fun W9 hW9 => (unhide HQ1).pgAt (fun q hq hql => (hW9 q (by omega) (by simpa [World.setCell] using hql)).trans ?_) (unhide HT) (unhide HFL), ?_⟩
              · rw [Below.heap_setCell _ _ _ _ (by simp; omega), Below.heap_setCell _ _ _ _ (by simp; omega), Below.heap_setCell _ _ _ _ (by simp; omega)]
              · exact (((((unhide HFW).trans (unhide HQ1).fr).setCell _ _ (.inr (Nat.le_refl _))).setCell _ _ (.inr (Nat.le_refl _))).setCell _ _ (.inr (Nat.le_refl _)))
          have hpos : 0 < (hlK N ln f 6).length := by rw [hlen]; omega
          obtain ⟨g, cap, hge, hgB, hgl, hcell⟩ := row_cellK (unhide R2) hpos
          rw [hlen] at hge
          injection hge with e1 e2 e3
          subst e1 e3
          refine step_grow_at (d := 51) rfl elemO (by decide) (by decide) (v := .slice (some ⟨w.heap.size + 1 + 1, 0, none⟩) 4 4) (n := 4) (m := lnK N ln 6) (xs := flatE startK) (news := flatE (hlK N ln f 6)) (B := w1.heap.size) (ad := ⟨g, 0, none⟩) (cap := hc) rfl (.tmp 46) (.tmp 50) rfl rfl rfl (unhide P2).ends.st (by rw [flatE_len3, hlen]) ?_ ?_ (by omega) (by have := lnK_le N ln 6; omega) (unhide P2).fr.size ?_
          · intro j u hu; rw [addr_add, Nat.zero_add]; exact hcell j u hu
          · exact flatE_one _
          intro v3 w3 o3 f3 sh3
          obtain ⟨a3, cc3, rfl⟩ := sh3
          have o3' : w3.ownsRow w1.heap.size 70 3 (.slice a3 (4 + lnK N ln 6) cc3) (4 + (hlK N ln f 6).length) (flatE startK ++ flatE (hlK N ln f 6)) := by rw [hlen]; exact o3
          obtain ⟨q1, q2, q3⟩ := (unhide P2).endsS o3' f3
          have u3 := fun j => cell_of_row w3 _ j _ 33 (0, 0) q3
          have uz := fun j => frozen_rowE q3 j
          have hd1 : w3.cell? ⟨b, off + 6, none⟩ = some (.slice va (ln 6) vc) := (f3.cell b (off + 6) (World.block_lt_of_cell? w2 _ hc1) (fun e => by simp only [own, Value.ownBlock, Option.some.injEq] at e; omega)).trans hc1
          have hnb : b ≠ w.heap.size + 1 := by omega
          have HQ1 := hide q1
          have HQ2 := hide q2
          clear q1 q2 q3 o3 o3' f3 hcell
          refine hK'.out _ _ hd1 (fun hHeld => ?_)
          clear hK' K'
          try simp only [List.setIfInBounds_toArray, List.set_cons_zero, List.set_cons_succ]
          refine take_yes (i := 7) (d := 52) (v := ?_) (fuel := 1) rfl rfl (by kernel_rfl) (by kernel_rfl) (by kernel_rfl) (fun _ _ _ h => h) (by rfl) ?_ (by assumption) ?_
          rotate_left
          · intro w hSw; (try dsimp only at hSw); go_simp; try with_reducible rfl
          simp only [List.setIfInBounds_toArray, List.set_cons_zero, List.set_cons_succ]
          refine wpAnyH_ready (rs := [8]) (by kernel_rfl) (by simp) ?_
          refine (AllReadyH.cons rfl (fun K' hK' => ?_) AllReadyH.nil)
          go_simp
          refine hK'.out _ _ ?_ (fun hHeld => ?_)
          · exact (World.cell?_of_block (w := w3) (a := ⟨b, off + 6, none⟩) (Below.heap_setCell _ _ _ _ hnb)).trans hd1
          clear hK' K'
          try simp only [List.setIfInBounds_toArray, List.set_cons_zero, List.set_cons_succ]
          refine wpAnyH_done (by kernel_rfl) ?_ _
          generalize hW4 : w3.setCell ⟨w.heap.size + 1, 0, none⟩ (.slice a3 (4 + lnK N ln 6) cc3) = W4 at *
          have v4 := fun j => cell_of_row W4 _ j _ 33 (0, 0) (unhide HQ2)
          clear u3 uz hd1 hW4
          have zr := ((unhide HQ1).fr.same w.heap.size (by have := unhide HZ1; omega) (fun h => h)).trans (unhide HROW)
          have zc := fun j => cell_of_row W4 _ j _ 33 (0, 0) zr
          have zz := fun j => frozen_rowE zr j
          clear zr
          go_wp2
          have hz9 := unhide HZ1
          refine bodyPost_ret (v := .agg #[.slice a3 (4 + lnK N ln 6) cc3, .slice at_ 3 ct, .slice af 3 cf]) (by simp [results, Tryz.results21, go_sem, zc]) rfl ⟨_, _, _, rfl, fun W9 hW9 => (unhide HQ1).pgAt (fun q hq hql => (hW9 q (by omega) (by simpa [World.setCell] using hql)).trans ?_) (unhide HT) (unhide HFL), ?_⟩
          · rw [Below.heap_setCell _ _ _ _ (by simp; omega), Below.heap_setCell _ _ _ _ (by simp; omega), Below.heap_setCell _ _ _ _ (by simp; omega)]
          · exact (((((unhide HFW).trans (unhide HQ1).fr).setCell _ _ (.inr (Nat.le_refl _))).setCell _ _ (.inr (Nat.le_refl _))).setCell _ _ (.inr (Nat.le_refl _)))
        · go_simp
          go_at_call 35
          refine (unhide H35).mono ?_
          rintro _ w2 ⟨ha, hc, rfl, r2, f2⟩
          have p2 := (unhide HP).keep (Fr.nilF f2)
          have hc0 : w2.cell? ⟨w.heap.size + 1, 0, none⟩ = some (.slice (some ⟨w.heap.size + 1 + 1, 0, none⟩) 4 4) := cell_of_row w2 _ 0 _ 33 (0, 0) p2.pb_
          have hc1 : w2.cell? ⟨b, off + 6, none⟩ = some (.slice va (ln 6) vc) := (f2.cell b (off + 6) (Nat.lt_of_lt_of_le hb (unhide HFR).size) (fun h => h)).trans hci
          refine hK'.out _ _ hc1 (fun hHeld => ?_)
          clear hK' K'
          try simp only [List.setIfInBounds_toArray, List.set_cons_zero, List.set_cons_succ]
          have P2 := hide p2
          have R2 := hide r2
          clear p2 r2 f2
          refine wpAnyH_ready (rs := [1]) (by kernel_rfl) (by simp) ?_
          refine (AllReadyH.cons rfl (fun K' hK' => ?_) AllReadyH.nil)
          go_simp
          refine hK'.out _ _ (by exact hc1) (fun hHeld => ?_)
          clear hK' K'
          try simp only [List.setIfInBounds_toArray, List.set_cons_zero, List.set_cons_succ]
          refine wpAnyH_ready (rs := [6]) (by kernel_rfl) (by simp) ?_
          refine (AllReadyH.cons rfl (fun K' hK' => ?_) AllReadyH.nil)
          by_cases hm0 : lnK N ln 6 = 0
          · have hl0 : hlK N ln f 6 = [] := List.eq_nil_of_length_eq_zero (by rw [hlen]; exact hm0)
            obtain ⟨q1, q2, q3⟩ := (unhide P2).endsS (l := hlK N ln f 6) (W := w2) (v' := .slice (some ⟨w.heap.size + 1 + 1, 0, none⟩) 4 4) (by rw [hl0]; exact (unhide P2).ends.st) (Fr.refl _ _)
            have u3 := fun j => cell_of_row w2 _ j _ 33 (0, 0) q3
            have uz := fun j => frozen_rowE q3 j
            have hnb : b ≠ w.heap.size + 1 := by omega
            have HQ1 := hide q1
            have HQ2 := hide q2
            clear q1 q2 q3 hl0
            simp only [hm0]
            rcases ha with _ | ⟨hab, hao, ham⟩
            · go_simp
              refine hK'.out _ _ hc1 (fun hHeld => ?_)
              clear hK' K'
              try simp only [List.setIfInBounds_toArray, List.set_cons_zero, List.set_cons_succ]
              refine take_yes (i := 7) (d := 52) (v := ?_) (fuel := 1) rfl rfl (by kernel_rfl) (by kernel_rfl) (by kernel_rfl) (fun _ _ _ h => h) (by rfl) ?_ (by assumption) ?_
              rotate_left
              · intro w hSw; (try dsimp only at hSw); go_simp; try with_reducible rfl
              simp only [List.setIfInBounds_toArray, List.set_cons_zero, List.set_cons_succ]
              refine wpAnyH_ready (rs := [8]) (by kernel_rfl) (by simp) ?_
              refine (AllReadyH.cons rfl (fun K' hK' => ?_) AllReadyH.nil)
              go_simp
              refine hK'.out _ _ ?_ (fun hHeld => ?_)
              · exact (World.cell?_of_block (w := w2) (a := ⟨b, off + 6, none⟩) (Below.heap_setCell _ _ _ _ hnb)).trans hc1
              clear hK' K'
              try simp only [List.setIfInBounds_toArray, List.set_cons_zero, List.set_cons_succ]
              refine wpAnyH_done (by kernel_rfl) ?_ _
              generalize hW4 : w2.setCell ⟨w.heap.size + 1, 0, none⟩ (.slice (some ⟨w.heap.size + 1 + 1, 0, none⟩) 4 4) = W4 at *
              have v4 := fun j => cell_of_row W4 _ j _ 33 (0, 0) (unhide HQ2)
              clear u3 uz hW4
              have zr := ((unhide HQ1).fr.same w.heap.size (by have := unhide HZ1; omega) (fun h => h)).trans (unhide HROW)
              have zc := fun j => cell_of_row W4 _ j _ 33 (0, 0) zr
              have zz := fun j => frozen_rowE zr j
              clear zr
              go_wp2
              have hz9 := unhide HZ1
              refine bodyPost_ret (v := .agg #[.slice (some ⟨w.heap.size + 1 + 1, 0, none⟩) 4 4, .slice at_ 3 ct, .slice af 3 cf]) (by simp [results, Tryz.results21, go_sem, zc]) rfl ⟨_, _, _, rfl, fun W9 hW9 => (unhide HQ1).pgAt (fun q hq hql => (hW9 q (by omega) (by simpa [World.setCell] using hql)).trans ?_) (unhide HT) (unhide HFL), ?_⟩
              · rw [Below.heap_setCell _ _ _ _ (by simp; omega), Below.heap_setCell _ _ _ _ (by simp; omega), Below.heap_setCell _ _ _ _ (by simp; omega)]
              · exact (((((unhide HFW).trans (unhide HQ1).fr).setCell _ _ (.inr (Nat.le_refl _))).setCell _ _ (.inr (Nat.le_refl _))).setCell _ _ (.inr (Nat.le_refl _)))
            · go_simp
              refine hK'.out _ _ hc1 (fun hHeld => ?_)
              clear hK' K'
              try simp only [List.setIfInBounds_toArray, List.set_cons_zero, List.set_cons_succ]
              refine take_yes (i := 7) (d := 52) (v := ?_) (fuel := 1) rfl rfl (by kernel_rfl) (by kernel_rfl) (by kernel_rfl) (fun _ _ _ h => h) (by rfl) ?_ (by assumption) ?_
              rotate_left
              · intro w hSw; (try dsimp only at hSw); go_simp; try with_reducible rfl
              simp only [List.setIfInBounds_toArray, List.set_cons_zero, List.set_cons_succ]
              refine wpAnyH_ready (rs := [8]) (by kernel_rfl) (by simp) ?_
              refine (AllReadyH.cons rfl (fun K' hK' => ?_) AllReadyH.nil)
              go_simp
              refine hK'.out _ _ ?_ (fun hHeld => ?_)
              · exact (World.cell?_of_block (w := w2) (a := ⟨b, off + 6, none⟩) (Below.heap_setCell _ _ _ _ hnb)).trans hc1
              clear hK' K'
              try simp only [List.setIfInBounds_toArray, List.set_cons_zero, List.set_cons_succ]
              refine wpAnyH_done (by kernel_rfl) ?_ _
              generalize hW4 : w2.setCell ⟨w.heap.size + 1, 0, none⟩ (.slice (some ⟨w.heap.size + 1 + 1, 0, none⟩) 4 4) = W4 at *
              have v4 := fun j => cell_of_row W4 _ j _ 33 (0, 0) (unhide HQ2)
              clear u3 uz hW4
              have zr := ((unhide HQ1).fr.same w.heap.size (by have := unhide HZ1; omega) (fun h => h)).trans (unhide HROW)
              have zc := fun j => cell_of_row W4 _ j _ 33 (0, 0) zr
              have zz := fun j => frozen_rowE zr j
              clear zr
              go_wp2
              have hz9 := unhide HZ1
              refine bodyPost_ret (v := .agg #[.slice (some ⟨w.heap.size + 1 + 1, 0, none⟩) 4 4, .slice at_ 3 ct, .slice af 3 cf]) (by simp [results, Tryz.results21, go_sem, zc]) rfl ⟨_, _, _, rfl, fun W9 hW9 => (unhide HQ1).pgAt (fun q hq hql => (hW9 q (by omega) (by simpa [World.setCell] using hql)).trans ?_) (unhide HT) (unhide HFL), ?_⟩
              · rw [Below.heap_setCell _ _ _ _ (by simp; omega), Below.heap_setCell _ _ _ _ (by simp; omega), Below.heap_setCell _ _ _ _ (by simp; omega)]
              · exact (((((unhide HFW).trans (unhide HQ1).fr).setCell _ _ (.inr (Nat.le_refl _))).setCell _ _ (.inr (Nat.le_refl _))).setCell _ _ (.inr (Nat.le_refl _)))
          have hpos : 0 < (hlK N ln f 6).length := by rw [hlen]; omega
          obtain ⟨g, cap, hge, hgB, hgl, hcell⟩ := row_cellK (unhide R2) hpos
          rw [hlen] at hge
          injection hge with e1 e2 e3
          subst e1 e3
          refine step_grow_at (d := 51) rfl elemO (by decide) (by decide) (v := .slice (some ⟨w.heap.size + 1 + 1, 0, none⟩) 4 4) (n := 4) (m := lnK N ln 6) (xs := flatE startK) (news := flatE (hlK N ln f 6)) (B := w1.heap.size) (ad := ⟨g, 0, none⟩) (cap := hc) rfl (.tmp 46) (.tmp 50) rfl rfl rfl (unhide P2).ends.st (by rw [flatE_len3, hlen]) ?_ ?_ (by omega) (by have := lnK_le N ln 6; omega) (unhide P2).fr.size ?_
          · intro j u hu; rw [addr_add, Nat.zero_add]; exact hcell j u hu
          · exact flatE_one _
          intro v3 w3 o3 f3 sh3
          obtain ⟨a3, cc3, rfl⟩ := sh3
          have o3' : w3.ownsRow w1.heap.size 70 3 (.slice a3 (4 + lnK N ln 6) cc3) (4 + (hlK N ln f 6).length) (flatE startK ++ flatE (hlK N ln f 6)) := by rw [hlen]; exact o3
          obtain ⟨q1, q2, q3⟩ := (unhide P2).endsS o3' f3
          have u3 := fun j => cell_of_row w3 _ j _ 33 (0, 0) q3
          have uz := fun j => frozen_rowE q3 j
          have hd1 : w3.cell? ⟨b, off + 6, none⟩ = some (.slice va (ln 6) vc) := (f3.cell b (off + 6) (World.block_lt_of_cell? w2 _ hc1) (fun e => by simp only [own, Value.ownBlock, Option.some.injEq] at e; omega)).trans hc1
          have hnb : b ≠ w.heap.size + 1 := by omega
          have HQ1 := hide q1
          have HQ2 := hide q2
          clear q1 q2 q3 o3 o3' f3 hcell
          refine hK'.out _ _ hd1 (fun hHeld => ?_)
          clear hK' K'
          try simp only [List.setIfInBounds_toArray, List.set_cons_zero, List.set_cons_succ]
          refine take_yes (i := 7) (d := 52) (v := ?_) (fuel := 1) rfl rfl (by kernel_rfl) (by kernel_rfl) (by kernel_rfl) (fun _ _ _ h => h) (by rfl) ?_ (by assumption) ?_
          rotate_left
          · intro w hSw; (try dsimp only at hSw); go_simp; try with_reducible rfl
          simp only [List.setIfInBounds_toArray, List.set_cons_zero, List.set_cons_succ]
          refine wpAnyH_ready (rs := [8]) (by kernel_rfl) (by simp) ?_
          refine (AllReadyH.cons rfl (fun K' hK' => ?_) AllReadyH.nil)
          go_simp
          refine hK'.out _ _ ?_ (fun hHeld => ?_)
          · exact (World.cell?_of_block (w := w3) (a := ⟨b, off + 6, none⟩) (Below.heap_setCell _ _ _ _ hnb)).trans hd1
          clear hK' K'
          try simp only [List.setIfInBounds_toArray, List.set_cons_zero, List.set_cons_succ]
          refine wpAnyH_done (by kernel_rfl) ?_ _
          generalize hW4 : w3.setCell ⟨w.heap.size + 1, 0, none⟩ (.slice a3 (4 + lnK N ln 6) cc3) = W4 at *
          have v4 := fun j => cell_of_row W4 _ j _ 33 (0, 0) (unhide HQ2)
          clear u3 uz hd1 hW4
          have zr := ((unhide HQ1).fr.same w.heap.size (by have := unhide HZ1; omega) (fun h => h)).trans (unhide HROW)
          have zc := fun j => cell_of_row W4 _ j _ 33 (0, 0) zr
          have zz := fun j => frozen_rowE zr j
          clear zr
          go_wp2
          have hz9 := unhide HZ1
          refine bodyPost_ret (v := .agg #[.slice a3 (4 + lnK N ln 6) cc3, .slice at_ 3 ct, .slice af 3 cf]) (by simp [results, Tryz.results21, go_sem, zc]) rfl ⟨_, _, _, rfl, fun W9 hW9 => (unhide HQ1).pgAt (fun q hq hql => (hW9 q (by omega) (by simpa [World.setCell] using hql)).trans ?_) (unhide HT) (unhide HFL), ?_⟩
          · rw [Below.heap_setCell _ _ _ _ (by simp; omega), Below.heap_setCell _ _ _ _ (by simp; omega), Below.heap_setCell _ _ _ _ (by simp; omega)]
          · exact (((((unhide HFW).trans (unhide HQ1).fr).setCell _ _ (.inr (Nat.le_refl _))).setCell _ _ (.inr (Nat.le_refl _))).setCell _ _ (.inr (Nat.le_refl _)))
      · have hN6' : ¬ (6 : Int) < (N : Int) := by omega
        have hend : PEnd w1 wr (.slice (some ⟨w.heap.size + 1 + 1, 0, none⟩) 4 4) (.slice at_ 3 ct) (.slice af 3 cf) (startK ++ hlK N ln f 6) tv fv := by
          have e : hlK N ln f 6 = [] := by unfold hlK lnK; rw [if_neg hN6]; rfl
          rw [e, List.append_nil]; exact (unhide HP).ends
        have HE := hide hend
        clear hend
        have zr := ((unhide HE).fr.same w.heap.size (by have := unhide HZ1; omega) (fun h => h)).trans (unhide HROW)
        have zc := fun j => cell_of_row wr _ j _ 33 (0, 0) zr
        have zz := fun j => frozen_rowE zr j
        clear zr
        go_wp2
        have hz9 := unhide HZ1
        refine bodyPost_ret (v := .agg #[.slice (some ⟨w.heap.size + 1 + 1, 0, none⟩) 4 4, .slice at_ 3 ct, .slice af 3 cf]) (by simp [results, Tryz.results21, go_sem, zc]) rfl ⟨_, _, _, rfl, fun W9 hW9 => (unhide HE).pgAt (fun q hq hql => (hW9 q (by omega) (by simpa [World.setCell] using hql)).trans ?_) (unhide HT) (unhide HFL), ?_⟩
        · rw [Below.heap_setCell _ _ _ _ (by simp; omega), Below.heap_setCell _ _ _ _ (by simp; omega), Below.heap_setCell _ _ _ _ (by simp; omega)]
        · exact (((((unhide HFW).trans (unhide HE).fr).setCell _ _ (.inr (Nat.le_refl _))).setCell _ _ (.inr (Nat.le_refl _))).setCell _ _ (.inr (Nat.le_refl _)))
end Go.Proofs.YtfmbebofllgmoaaGreatDoor
namespace Go.Proofs.YtfmbebofllgmoaaGreatDoor
open Go.RowKit
attribute [local go_sem ↓] Go.wp_at_zero Go.wp_at_succ

set_option maxHeartbeats 1000000 in
theorem sameInput_any {w : World} {va vb : Value} {l : List Int} {P : Nat → Prop} (hP : ∀ q, P q → q < w.heap.size) (k o n : Int) (ha : IntsIn w va l P) (hb : IntsIn w vb l P) (hll : l.length ≤ 100000000) :
    Calls Tryz.prog 34 #[.agg #[.int .i64 k, .int .i64 o, .int .i64 n, va], .agg #[.int .i64 k, .int .i64 o, .int .i64 n, vb]] w fun e w' => e = .returned (.bool true) ∧ Fr (fun _ => False) w w' (fun _ => False) := by
  obtain ⟨aa, ca, rfl, hac⟩ := ha
  obtain ⟨ab, cb, rfl, hbc⟩ := hb
  have HAC := hide hac
  have HBC := hide hbc
  have HP := hide hP
  clear hac hbc hP
  go_enter Tryz.func34, Tryz.ntmps34
  go_wp2
  have hfw : Fr (fun _ => False) w ((w.alloc (.cells #[.int .i64 k, .int .i64 o, .int .i64 n, .slice aa l.length ca] 49)).alloc (.cells #[.int .i64 k, .int .i64 o, .int .i64 n, .slice ab l.length cb] 49)) (fun _ => False) := ((Fr.refl _ _).alloc _).alloc _
  obtain ⟨t0, t1⟩ := two_allocs w.heap (.cells #[.int .i64 k, .int .i64 o, .int .i64 n, .slice aa l.length ca] 49) (.cells #[.int .i64 k, .int .i64 o, .int .i64 n, .slice ab l.length cb] 49)
  change ((w.alloc _).alloc _).heap[_]? = _ at t0 t1
  generalize hw2 : ((w.alloc (.cells #[.int .i64 k, .int .i64 o, .int .i64 n, .slice aa l.length ca] 49)).alloc (.cells #[.int .i64 k, .int .i64 o, .int .i64 n, .slice ab l.length cb] 49)) = w2 at *
  clear hw2
  have HFW := hide hfw
  have T0 := hide t0
  have T1 := hide t1
  clear hfw t0 t1
  go_loopw [5] (fun i wr => ∃ j : Nat, j ≤ l.length ∧ i = .int .i64 j ∧ Dr w2 wr) (fun i _ => l.length - (intOf i).toNat)
  case atStart => exact ⟨0, Nat.zero_le _, rfl, Dr.refl _⟩
  case round =>
    obtain ⟨j, hj, rfl, hd⟩ := hrel
    have c0 := fun i => (hd.cell (a := ⟨w.heap.size, i, none⟩)).trans (cell_of_row w2 _ i _ 49 (0, 0) (unhide T0))
    have c1 := fun i => (hd.cell (a := ⟨w.heap.size + 1, i, none⟩)).trans (cell_of_row w2 _ i _ 49 (0, 0) (unhide T1))
    by_cases hlt : j < l.length
    · rcases unhide HAC with hz | ⟨q, off, rfl, hq, hcq⟩
      · rw [hz] at hlt; simp at hlt
      rcases unhide HBC with hz | ⟨q', off', rfl, hq', hcq'⟩
      · rw [hz] at hlt; simp at hlt
      have g0 := (hd.cell (a := ⟨q, off + j, none⟩)).trans (((unhide HFW).cell q (off + j) (unhide HP q hq) (fun h => h)).trans (hcq j hlt))
      have g1 := (hd.cell (a := ⟨q', off' + j, none⟩)).trans (((unhide HFW).cell q' (off' + j) (unhide HP q' hq') (fun h => h)).trans (hcq' j hlt))
      clear hcq hcq'
      generalize l.getD j 0 = z at *
      have hk0 : (0 : Int) ≤ (j : Int) := by omega
      have hk1 : (j : Int) < (l.length : Int) := by omega
      go_wp2
      go_quiet (fail)
      go_wp2
      go_roundw
      case rel => exact ⟨j + 1, by omega, by go_num, hd.more _⟩
      case measure => simp [intOf]; omega
    · have hk1 : ¬ (j : Int) < (l.length : Int) := by omega
      go_wp2
      go_ret
      have e1 := unhide HFW
      refine ⟨rfl, ?_⟩
      obtain ⟨m, rfl⟩ := hd
      exact e1.drewN m

theorem begins_any {w : World} {B : Nat} {v1 v2 : Value} {n : Nat} {f : Nat → O3} {l : List O3} (h1 : OpsIn w v1 n f) (h2 : w.ownsRow B 72 3 v2 l.length (flatE l)) (hn : n ≤ l.length) (hl : l.length ≤ 100000000) (hf : ∀ i, i < n → f i = l.getD i (0, 0, 0)) :
    Calls Tryz.prog 20 #[v1, v2] w fun e w' => e = .returned (.bool true) ∧ Dr w w' := by
  have hops := row_ops' h2 (by omega)
  obtain ⟨a2, c2, rfl, hcap⟩ : ∃ a c, v2 = .slice a l.length c ∧ l.length ≤ c := by
    rcases h2.2 with ⟨hv, h0⟩ | ⟨g, cap, cur, hv, _, _, hc, _⟩
    · exact ⟨none, 0, by rw [h0]; exact hv, by omega⟩
    · exact ⟨_, cap, hv, hc⟩
  obtain ⟨a1, c1, rfl, hn1, hc1⟩ := h1
  have h17 := sameEvents_any n (.slice a1 n c1) (.slice a2 n c2) f w ⟨a1, c1, rfl, hn1, hc1⟩ (by
    obtain ⟨a, c, hv, _, hcl⟩ := hops
    injection hv with e1 e2 e3
    subst e1 e3
    refine ⟨_, _, rfl, hn1, ?_⟩
    by_cases h0 : n = 0
    · exact .inl h0
    · rcases hcl with hz | ⟨b, off, ha, hcl⟩
      · omega
      · exact .inr ⟨b, off, ha, fun i hi => by rw [hf i hi]; exact hcl i (by omega)⟩)
  have H17 := hide h17
  clear h17 hops h2 hf hc1
  have i1 : (n : Int) ≤ (l.length : Int) := by omega
  have i2 : (n : Int) ≤ (c2 : Int) := by omega
  have i0 : (0 : Int) ≤ (n : Int) := by omega
  rcases a2 with _ | ⟨qb, qo, qm⟩
  all_goals
    go_enter Tryz.func20, Tryz.ntmps20
    go_wp2_with (go_at_call 17; refine (unhide H17).mono ?_; rintro e w1 ⟨rfl, d1⟩)
    go_ret
    exact ⟨rfl, d1⟩
end Go.Proofs.YtfmbebofllgmoaaGreatDoor
