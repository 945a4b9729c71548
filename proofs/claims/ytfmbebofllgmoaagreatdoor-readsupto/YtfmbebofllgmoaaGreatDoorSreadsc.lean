/-
  PROVED HERE: the laws' comparisons of lists of numbers and of inputs that are the same; lists that read as their owner wrote them. append to a list of one's own, both the list and what comes of it may be read behind it. the Book of all lists that came out: looks answers true where each reads as its owner wrote it. looks answers true of a Book whose lists read as their owner wrote them. the Book, its lists in blocks of their own: what it keeps where other blocks turn. append to a list of one's own, with room or without: what has turned. the Book where one more list is kept. lists of one unit over and over: what an append to an own one leaves. keepInts writes its marks and keeps the Book. writing units over an own list. keepInputs writes its marks and keeps the Book.
-/
import Derived.Test.YtfmbebofllgmoaaGreatDoorProg
import Derived.WalkKit
import Derived.WalkSpells
import Derived.WalkLawsBesides
import Derived.Deep.QuietTactic
import Derived.BigQuiet
import Derived.Deep.RegionHeld3
import Derived.Deep.AppendLies
import Derived.Laws.EntriesVeiled
import Derived.Deep.DrawnRows
import Derived.BigRegion
import Derived.Deep.LoopGhost
import Derived.Deep.RegionLaw
import Derived.Lib.SliceRun
import Derived.Laws.BytesString
import Derived.ArgAppend
import Derived.Laws.BitsAllLaws
import Derived.Deep.MidRow
import Derived.Shelf.SlSortCmp.SmallK
import Derived.Shelf.SlicesG.Cmp
import Derived.Shelf.Small.Bits
import Derived.Laws.StructEq
import Derived.Deep.DeepCutAuto
import Derived.Conc.LoneCalls
import Derived.Calls
import Derived.Tactics
import Derived.KernelRfl
import Derived.Laws.Rows
import Derived.Lib.SlBytesConst
import Derived.RangeFuncOwn
import Derived.Laws.IdiomStrings
import Derived.RangeFuncNested
import Derived.RangeFuncBound
import Derived.RangeFuncCalls
import Derived.RangeFuncLeaves
import Derived.Shelf.RegionOpen
import Derived.OwnWalkIn
import Derived.TacticsInMore
import Derived.Maps.OwnIn
import Derived.Maps.AppendAt
import Derived.LoopNIn
import Derived.LoopIn
import Derived.ChangeKeysEq
import Derived.Deep.DeepAppendRoom
import Derived.Test.YtfmbebofllgmoaaGreatDoorSreadsb
namespace Go.Proofs.YtfmbebofllgmoaaGreatDoor
open Go.RowKit
attribute [local go_sem ↓] Go.wp_at_zero Go.wp_at_succ

set_option maxHeartbeats 1000000 in
theorem sameInts_any {w : World} {va vb : Value} {l : List Int} {P Q : Nat → Prop} (ha : IntsIn w va l P) (hb : IntsIn w vb l Q) (hll : l.length ≤ 100000000) :
    Calls Tryz.prog 78 #[va, vb] w fun e w' => e = .returned (.bool true) ∧ Dr w w' := by
  obtain ⟨aa, ca, rfl, hac⟩ := ha
  obtain ⟨ab, cb, rfl, hbc⟩ := hb
  have HAC := hide hac
  have HBC := hide hbc
  clear hac hbc
  go_enter Tryz.func78, Tryz.ntmps78
  go_wp2
  go_loopw [5] (fun i wr => ∃ j : Nat, j ≤ l.length ∧ i = .int .i64 j ∧ Dr w wr) (fun i _ => l.length - (intOf i).toNat)
  case atStart => exact ⟨0, Nat.zero_le _, rfl, Dr.refl _⟩
  case round =>
    obtain ⟨j, hj, rfl, hd⟩ := hrel
    by_cases hlt : j < l.length
    · rcases unhide HAC with hz | ⟨q, off, rfl, hq, hcq⟩
      · rw [hz] at hlt; simp at hlt
      rcases unhide HBC with hz | ⟨q', off', rfl, hq', hcq'⟩
      · rw [hz] at hlt; simp at hlt
      have g0 := (hd.cell (a := ⟨q, off + j, none⟩)).trans (hcq j hlt)
      have g1 := (hd.cell (a := ⟨q', off' + j, none⟩)).trans (hcq' j hlt)
      clear hcq hcq' HAC HBC
      generalize l.getD j 0 = z at *
      have hk0 : (0 : Int) ≤ (j : Int) := by omega
      have hk1 : (j : Int) < (l.length : Int) := by omega
      go_wp2
      go_quiet (fail)
      go_wp2
      go_roundw
      case rel => exact ⟨j + 1, by omega, by go_num, hd.more _⟩
      case measure => simp [intOf]; omega
    · have hk1 : ¬ (j : Int) < (l.length : Int) := by omega
      go_wp2
      go_ret
      exact ⟨rfl, hd⟩

/-- A list of numbers that are all the same. -/
def FullI (w : World) (v : Value) (m : Int) : Prop := ∃ a n c, v = .slice a n c ∧ n ≤ 1000000000 ∧ (n = 0 ∨ ∃ q off, a = some ⟨q, off, none⟩ ∧ ∀ i, i < n → w.cell? ⟨q, off + i, none⟩ = some (.int .i64 m))
theorem fullInts_any {w : World} {v : Value} {m : Int} (h : FullI w v m) : Calls Tryz.prog 47 #[v, .int .i64 m] w fun e w' => e = .returned (.bool true) ∧ w' = w := by
  obtain ⟨a, n, c, rfl, hn, hc⟩ := h
  have HC := hide hc
  clear hc
  go_enter Tryz.func47, Tryz.ntmps47
  go_wp2
  go_loopw [5] (fun i wr => ∃ j : Nat, j ≤ n ∧ i = .int .i64 j ∧ wr = w) (fun i _ => n - (intOf i).toNat)
  case atStart => exact ⟨0, Nat.zero_le _, rfl, rfl⟩
  case round =>
    obtain ⟨j, hj, rfl, rfl⟩ := hrel
    by_cases hlt : j < n
    · rcases unhide HC with hz | ⟨q, off, rfl, hcq⟩
      · omega
      have g0 := hcq j hlt
      clear hcq HC
      have hk0 : (0 : Int) ≤ (j : Int) := by omega
      have hk1 : (j : Int) < (n : Int) := by omega
      go_wp2
      go_roundw
      case rel => exact ⟨j + 1, by omega, by go_num, trivial⟩
      case measure => simp [intOf]; omega
    · have hk1 : ¬ (j : Int) < (n : Int) := by omega
      go_wp2
      go_ret
      exact ⟨rfl, rfl⟩
/-- A list of inputs that are all one mark. -/
def FullN (w : World) (v : Value) (m : Int) : Prop := ∃ a n c, v = .slice a n c ∧ n ≤ 1000000000 ∧ (n = 0 ∨ ∃ q off, a = some ⟨q, off, none⟩ ∧ ∀ i, i < n → w.cell? ⟨q, off + i * 4, none⟩ = some (.int .i64 0) ∧ w.cell? ⟨q, off + i * 4 + 1, none⟩ = some (.int .i64 0) ∧ w.cell? ⟨q, off + i * 4 + 2, none⟩ = some (.int .i64 m) ∧ w.cell? ⟨q, off + i * 4 + 3, none⟩ = some (.slice none 0 0))
theorem fullInputs_any {w : World} {v : Value} {m : Int} (h : FullN w v m) : Calls Tryz.prog 49 #[v, .int .i64 m] w fun e w' => e = .returned (.bool true) ∧ w' = w := by
  obtain ⟨a, n, c, rfl, hn, hc⟩ := h
  have HC := hide hc
  clear hc
  go_enter Tryz.func49, Tryz.ntmps49
  go_wp2
  go_loopw [5] (fun i wr => ∃ j : Nat, j ≤ n ∧ i = .int .i64 j ∧ wr = w) (fun i _ => n - (intOf i).toNat)
  case atStart => exact ⟨0, Nat.zero_le _, rfl, rfl⟩
  case round =>
    obtain ⟨j, hj, rfl, rfl⟩ := hrel
    by_cases hlt : j < n
    · rcases unhide HC with hz | ⟨q, off, rfl, hcq⟩
      · omega
      obtain ⟨g0, g1, g2, g3⟩ := hcq j hlt
      clear hcq HC
      have hk0 : (0 : Int) ≤ (j : Int) := by omega
      have hk1 : (j : Int) < (n : Int) := by omega
      go_wp2
      go_roundw
      case rel => exact ⟨j + 1, by omega, by go_num, trivial⟩
      case measure => simp [intOf]; omega
    · have hk1 : ¬ (j : Int) < (n : Int) := by omega
      go_wp2
      go_ret
      exact ⟨rfl, rfl⟩
/-- An input's cells in a list of inputs of the document. -/
theorem DIns.cells {w : World} {B : Nat} {v : Value} {ps : List (Inp × Value)} (h : DIns w B v ps) {i : Nat} (hi : i < ps.length) : ∃ g c x fv, v = .slice (some ⟨g, 0, none⟩) ps.length c ∧ g < w.heap.size ∧ ps[i]? = some (x, fv) ∧ w.cell? ⟨g, i * 4, none⟩ = some (.int .i64 (x.1 : Nat)) ∧ w.cell? ⟨g, i * 4 + 1, none⟩ = some (.int .i64 (x.2.1 : Nat)) ∧ w.cell? ⟨g, i * 4 + 2, none⟩ = some (.int .i64 (x.2.2.1 : Nat)) ∧ w.cell? ⟨g, i * 4 + 3, none⟩ = some fv ∧ IntsIn w fv (zs x.2.2.2) (fun q => q < w.heap.size) := by
  obtain ⟨g, c, hv, _, hg, hc⟩ := row_cell h.row (by omega)
  have hp : ps[i]? = some ps[i] := List.getElem?_eq_getElem hi
  obtain ⟨g0, g1, g2, g3⟩ := flatP_get ps i _ hp
  exact ⟨g, c, ps[i].1, ps[i].2, hv, hg, hp, hc _ _ g0, hc _ _ g1, hc _ _ g2, hc _ _ g3, intsIn_kept (h.fl _ (List.getElem_mem hi)) (fun _ _ => rfl) (fun _ hq => hq.2.1)⟩

set_option maxHeartbeats 2000000 in
set_option maxRecDepth 20000 in
theorem sameInputs_any {w : World} {B1 B2 : Nat} {v1 v2 : Value} {ps1 ps2 : List (Inp × Value)} (h1 : InsAt w B1 v1 ps1) (h2 : DIns w B2 v2 ps2) (he : ps1.map (·.1) = ps2.map (·.1)) (hl : ps1.length ≤ 100000000) (hf : ∀ p, p ∈ ps1 → p.1.2.2.2.length ≤ 100) :
    Calls Tryz.prog 44 #[v1, v2] w fun e w' => e = .returned (.bool true) ∧ Fr (fun _ => False) w w' (fun _ => False) := by
  have hle : ps1.length = ps2.length := by have := congrArg List.length he; simpa using this
  have key : ∀ i, i < ps1.length → ∃ g1 c1 g2 c2 fa1 fn1 fc1 fa2 fn2 fc2, ∃ x : Inp, v1 = .slice (some ⟨g1, 0, none⟩) ps1.length c1 ∧ v2 = .slice (some ⟨g2, 0, none⟩) ps2.length c2 ∧ g1 < w.heap.size ∧ g2 < w.heap.size ∧ ∀ W : World, Fr (fun _ => False) w W (fun _ => False) →
      (W.cell? ⟨g1, i * 4, none⟩ = some (.int .i64 (x.1 : Nat)) ∧ W.cell? ⟨g1, i * 4 + 1, none⟩ = some (.int .i64 (x.2.1 : Nat)) ∧ W.cell? ⟨g1, i * 4 + 2, none⟩ = some (.int .i64 (x.2.2.1 : Nat)) ∧ W.cell? ⟨g1, i * 4 + 3, none⟩ = some (.slice fa1 fn1 fc1)) ∧
      (W.cell? ⟨g2, i * 4, none⟩ = some (.int .i64 (x.1 : Nat)) ∧ W.cell? ⟨g2, i * 4 + 1, none⟩ = some (.int .i64 (x.2.1 : Nat)) ∧ W.cell? ⟨g2, i * 4 + 2, none⟩ = some (.int .i64 (x.2.2.1 : Nat)) ∧ W.cell? ⟨g2, i * 4 + 3, none⟩ = some (.slice fa2 fn2 fc2)) ∧
      Calls Tryz.prog 78 #[.slice fa1 fn1 fc1, .slice fa2 fn2 fc2] W fun e w' => e = .returned (.bool true) ∧ Dr W w' := by
    intro i hi
    obtain ⟨g1, c1, x1, fv1, e1, l1, p1, a0, a1, a2, a3, o1⟩ := h1.cells hi
    obtain ⟨g2, c2, x2, fv2, e2, l2, p2, b0, b1, b2, b3, o2⟩ := h2.cells (i := i) (by omega)
    have hx : x2 = x1 := by
      have q1 : (ps1.map (·.1))[i]? = some x1 := by rw [List.getElem?_map, p1]; rfl
      have q2 : (ps2.map (·.1))[i]? = some x2 := by rw [List.getElem?_map, p2]; rfl
      rw [he, q2] at q1
      exact Option.some.inj q1
    subst hx
    obtain ⟨fa1, fn1, fc1, rfl⟩ := ownI_shape o1
    obtain ⟨fa2, fc2, hfv2, _⟩ := id o2
    subst hfv2
    refine ⟨g1, c1, g2, c2, fa1, fn1, fc1, fa2, (zs x2.2.2.2).length, fc2, x2, e1, e2, l1, l2, fun W hW => ?_⟩
    have k1 : ∀ j u, w.cell? ⟨g1, j, none⟩ = some u → W.cell? ⟨g1, j, none⟩ = some u := fun j u h => (hW.cell g1 j l1 (fun h => h)).trans h
    have k2 : ∀ j u, w.cell? ⟨g2, j, none⟩ = some u → W.cell? ⟨g2, j, none⟩ = some u := fun j u h => (hW.cell g2 j l2 (fun h => h)).trans h
    refine ⟨⟨k1 _ _ a0, k1 _ _ a1, k1 _ _ a2, k1 _ _ a3⟩, ⟨k2 _ _ b0, k2 _ _ b1, k2 _ _ b2, k2 _ _ b3⟩, ?_⟩
    have m1 := (ownI_ints (o1.fr hW (fun q hq => ⟨(World.ownsRow.lt o1 q hq).2, fun h => h⟩)))
    have m2 := intsIn_kept o2 (fun q hq => hW.same q hq (fun h => h)) (fun _ h => h)
    have hb := hf _ (List.mem_of_getElem? p1)
    exact sameInts_any m1 m2 (by rw [zs_len]; exact Nat.le_trans hb (by omega))
  obtain ⟨a1, c1, rfl⟩ := row_shape h1.row
  obtain ⟨a2, c2, rfl⟩ := row_shape h2.row
  have KEY := hide key
  rw [hle] at KEY ⊢
  rw [hle] at hl
  clear key h1 h2 hf he
  go_enter Tryz.func44, Tryz.ntmps44
  go_wp2
  go_loopw [5] (fun i wr => ∃ j : Nat, j ≤ ps2.length ∧ i = .int .i64 j ∧ Fr (fun _ => False) w wr (fun _ => False)) (fun i _ => ps2.length - (intOf i).toNat)
  case atStart => exact ⟨0, Nat.zero_le _, rfl, Fr.refl _ _⟩
  case round =>
    obtain ⟨j, hj, rfl, hfr⟩ := hrel
    by_cases hlt : j < ps2.length
    · obtain ⟨g1, k1, g2, k2, fa1, fn1, fc1, fa2, fn2, fc2, x, e1, e2, l1, l2, hk⟩ := unhide KEY j hlt
      injection e1 with e1 _ e3
      injection e2 with e2 _ e4
      subst e1 e2 e3 e4
      obtain ⟨⟨s0, s1, s2, s3⟩, ⟨t0, t1, t2, t3⟩, _⟩ := hk wr hfr
      obtain ⟨_, ⟨r0, r1, r2, r3⟩, _⟩ := hk (wr.alloc (.cells #[.int .i64 (x.1 : Nat), .int .i64 (x.2.1 : Nat), .int .i64 (x.2.2.1 : Nat), .slice fa1 fn1 fc1] 49)) (hfr.alloc _)
      have hz := hfr.size
      have hn1 : g1 ≠ wr.heap.size := by omega
      have hn2 : g2 ≠ wr.heap.size := by omega
      have hn1' : ¬ wr.heap.size = g1 := by omega
      have hn2' : ¬ wr.heap.size = g2 := by omega
      have HC := hide (fun W hW => (hk W hW).2.2)
      have HFR := hide hfr
      have hk0 : (0 : Int) ≤ (j : Int) := by omega
      have hk1 : (j : Int) < (ps2.length : Int) := by omega
      clear hk hfr KEY
      go_wp2_with (go_at_call 78; refine (unhide HC _ (((unhide HFR).alloc _).alloc _)).mono ?_; rintro e w1 ⟨rfl, d1⟩; have y0 := fun i => d1.cell ⟨wr.heap.size, i, none⟩; have y1 := fun i => d1.cell ⟨wr.heap.size + 1, i, none⟩; have D1 := hide d1; clear d1)
      go_roundw
      case rel =>
        obtain ⟨m, hm⟩ := unhide D1
        refine ⟨j + 1, by omega, by go_num, ?_⟩
        rw [hm]
        exact (((unhide HFR).alloc _).alloc _).drewN m
      case measure => simp [intOf]; omega
    · have hk1 : ¬ (j : Int) < (ps2.length : Int) := by omega
      go_wp2
      go_ret
      exact ⟨rfl, hfr⟩
end Go.Proofs.YtfmbebofllgmoaaGreatDoor
namespace Go.Proofs.YtfmbebofllgmoaaGreatDoor
open Go.RowKit

theorem row_prefix {w : World} {B e size n m g cap : Nat} {xs news : List Value} (h : w.ownsRow B e size (.slice (some ⟨g, 0, none⟩) (n + m) cap) (n + m) (xs ++ news)) (hl : xs.length = n * size) : w.ownsRow B e size (.slice (some ⟨g, 0, none⟩) n cap) n xs := by
  obtain ⟨h0, h⟩ := h
  rcases h with ⟨hv, _⟩ | ⟨g', cap', cur, hv, hB, hg, h1, h2, h3, h4⟩
  · cases hv
  · cases hv
    refine ⟨hl, .inr ⟨g, cap, cur, rfl, hB, hg, by omega, h2, h3, ?_⟩⟩
    have h5 := congrArg (List.take (n * size)) h4
    rw [List.take_take, ← hl, List.take_left] at h5
    rw [← hl]
    rw [show min xs.length ((n + m) * size) = xs.length by rw [hl, Nat.add_mul]; omega] at h5
    exact h5
end Go.Proofs.YtfmbebofllgmoaaGreatDoor
namespace Go.Proofs.YtfmbebofllgmoaaGreatDoor
open Go.RowKit
attribute [local go_sem ↓] Go.wp_at_zero Go.wp_at_succ

/-- A list that came out, and those that are longer; its mark. -/
structure Ent where
  l : Value
  a : Value
  b : Value
  c : Value
  m : Int
def flat5 : List Ent → List Value
  | [] => []
  | e :: r => e.l :: e.a :: e.b :: e.c :: .int .i64 e.m :: flat5 r
theorem flat5_append (a b : List Ent) : flat5 (a ++ b) = flat5 a ++ flat5 b := by
  induction a with
  | nil => rfl
  | cons x r ih => simp [flat5, ih]
theorem flat5_get : ∀ (es : List Ent) (i : Nat) (e : Ent), es[i]? = some e → (flat5 es)[i * 5]? = some e.l ∧ (flat5 es)[i * 5 + 1]? = some e.a ∧ (flat5 es)[i * 5 + 2]? = some e.b ∧ (flat5 es)[i * 5 + 3]? = some e.c ∧ (flat5 es)[i * 5 + 4]? = some (.int .i64 e.m)
  | [], i, p, h => by simp at h
  | x :: r, 0, p, h => by
    simp at h
    subst h
    exact ⟨rfl, rfl, rfl, rfl, rfl⟩
  | x :: r, i + 1, p, h => by
    have hr := flat5_get r i p (by simpa using h)
    have e : ∀ j, (flat5 (x :: r))[(i + 1) * 5 + j]? = (flat5 r)[i * 5 + j]? := fun j => by
      rw [show (i + 1) * 5 + j = (i * 5 + j) + 5 by omega]; rfl
    exact ⟨(e 0).trans hr.1, (e 1).trans hr.2.1, (e 2).trans hr.2.2.1, (e 3).trans hr.2.2.2.1, (e 4).trans hr.2.2.2.2⟩
/-- A list of events that are all one mark. -/
def FullE (w : World) (v : Value) (m : Int) : Prop := ∃ a n c, v = .slice a n c ∧ n ≤ 1000000000 ∧ (n = 0 ∨ ∃ q off, a = some ⟨q, off, none⟩ ∧ ∀ i, i < n → w.cell? ⟨q, off + i * 3, none⟩ = some (.int .i64 0) ∧ w.cell? ⟨q, off + i * 3 + 1, none⟩ = some (.int .i64 m) ∧ w.cell? ⟨q, off + i * 3 + 2, none⟩ = some (.int .i64 0))
section
variable {w W : World} {v : Value} {m : Int}
theorem FullI.fr (h : FullI w v m) (hf : Fr (fun _ => False) w W (fun _ => False)) : FullI W v m := by
  obtain ⟨a, n, c, hv, hn, hc⟩ := h
  refine ⟨a, n, c, hv, hn, hc.imp id fun ⟨q, off, e, hcell⟩ => ⟨q, off, e, fun i hi => ?_⟩⟩
  exact (hf.cell q (off + i) (World.block_lt_of_cell? w _ (hcell i hi)) (fun h => h)).trans (hcell i hi)
theorem FullE.fr (h : FullE w v m) (hf : Fr (fun _ => False) w W (fun _ => False)) : FullE W v m := by
  obtain ⟨a, n, c, hv, hn, hc⟩ := h
  refine ⟨a, n, c, hv, hn, hc.imp id fun ⟨q, off, e, hcell⟩ => ⟨q, off, e, fun i hi => ?_⟩⟩
  obtain ⟨h0, h1, h2⟩ := hcell i hi
  have hq := World.block_lt_of_cell? w _ h0
  exact ⟨(hf.cell q _ hq (fun h => h)).trans h0, (hf.cell q _ hq (fun h => h)).trans h1, (hf.cell q _ hq (fun h => h)).trans h2⟩
theorem FullN.fr (h : FullN w v m) (hf : Fr (fun _ => False) w W (fun _ => False)) : FullN W v m := by
  obtain ⟨a, n, c, hv, hn, hc⟩ := h
  refine ⟨a, n, c, hv, hn, hc.imp id fun ⟨q, off, e, hcell⟩ => ⟨q, off, e, fun i hi => ?_⟩⟩
  obtain ⟨h0, h1, h2, h3⟩ := hcell i hi
  have hq := World.block_lt_of_cell? w _ h0
  exact ⟨(hf.cell q _ hq (fun h => h)).trans h0, (hf.cell q _ hq (fun h => h)).trans h1, (hf.cell q _ hq (fun h => h)).trans h2, (hf.cell q _ hq (fun h => h)).trans h3⟩
end
theorem fullEvents_any {w : World} {v : Value} {m : Int} (h : FullE w v m) : Calls Tryz.prog 48 #[v, .int .i64 m] w fun e w' => e = .returned (.bool true) ∧ Fr (fun _ => False) w w' (fun _ => False) := by
  obtain ⟨a, n, c, rfl, hn, hc⟩ := h
  have HC := hide hc
  clear hc
  go_enter Tryz.func48, Tryz.ntmps48
  go_wp2
  have hf1 : Fr (fun _ => False) w (w.alloc (.cells #[.int .i64 0, .int .i64 m, .int .i64 0] 72)) (fun _ => False) := (Fr.refl _ _).alloc _
  have hb1 := heap_alloc_new w (.cells #[.int .i64 0, .int .i64 m, .int .i64 0] 72)
  generalize hW : w.alloc (.cells #[.int .i64 0, .int .i64 m, .int .i64 0] 72) = W at *
  clear hW
  have HF1 := hide hf1
  have HB1 := hide hb1
  clear hf1 hb1
  go_loopw [6] (fun i wr => ∃ j : Nat, j ≤ n ∧ i = .int .i64 j ∧ Dr W wr) (fun i _ => n - (intOf i).toNat)
  case atStart => exact ⟨0, Nat.zero_le _, rfl, Dr.refl _⟩
  case round =>
    obtain ⟨j, hj, rfl, hd⟩ := hrel
    by_cases hlt : j < n
    · rcases unhide HC with hz | ⟨q, off, rfl, hcq⟩
      · omega
      obtain ⟨g0, g1, g2⟩ := hcq j hlt
      have hq := World.block_lt_of_cell? w _ g0
      have k0 := (hd.cell ⟨q, off + j * 3, none⟩).trans (((unhide HF1).cell q _ hq (fun h => h)).trans g0)
      have k1 := (hd.cell ⟨q, off + j * 3 + 1, none⟩).trans (((unhide HF1).cell q _ hq (fun h => h)).trans g1)
      have k2 := (hd.cell ⟨q, off + j * 3 + 2, none⟩).trans (((unhide HF1).cell q _ hq (fun h => h)).trans g2)
      have c1 := fun i => (hd.cell ⟨w.heap.size, i, none⟩).trans (cell_of_row W _ i _ 72 (0, 0) (unhide HB1))
      clear hcq HC g0 g1 g2
      have hk0 : (0 : Int) ≤ (j : Int) := by omega
      have hk1 : (j : Int) < (n : Int) := by omega
      go_wp2
      go_quiet (fail)
      go_wp2
      go_roundw
      case rel => exact ⟨j + 1, by omega, by go_num, hd.more _⟩
      case measure => simp [intOf]; omega
    · have hk1 : ¬ (j : Int) < (n : Int) := by omega
      go_wp2
      go_ret
      refine ⟨rfl, ?_⟩
      obtain ⟨k, rfl⟩ := hd
      exact (unhide HF1).drewN k

/-- The Book: its block, its rows, and every list as its owner wrote it. -/
structure BookIn (w : World) (B bb : Nat) (n : Int) (vI vE vN : Value) (LI LE LN : List Ent) : Prop where
  blk : w.heap[bb]? = some (.cells #[.int .i64 n, vI, vE, vN] 65)
  rI : w.ownsRow B 105 5 vI LI.length (flat5 LI)
  rE : w.ownsRow B 108 5 vE LE.length (flat5 LE)
  rN : w.ownsRow B 111 5 vN LN.length (flat5 LN)
  fI : ∀ e, e ∈ LI → FullI w e.l e.m ∧ FullI w e.a e.m ∧ FullI w e.b e.m ∧ FullI w e.c e.m
  fE : ∀ e, e ∈ LE → FullE w e.l e.m ∧ FullE w e.a e.m ∧ FullE w e.b e.m ∧ FullE w e.c e.m
  fN : ∀ e, e ∈ LN → FullN w e.l e.m ∧ FullN w e.a e.m ∧ FullN w e.b e.m ∧ FullN w e.c e.m
theorem BookIn.fr {w W : World} {B bb : Nat} {n : Int} {vI vE vN : Value} {LI LE LN : List Ent} (h : BookIn w B bb n vI vE vN LI LE LN) (hf : Fr (fun _ => False) w W (fun _ => False)) : BookIn W B bb n vI vE vN LI LE LN := by
  have er : ∀ {B e size n v xs}, w.ownsRow B e size v n xs → W.ownsRow B e size v n xs := fun hr => ownsRow_of_block hr (fun q hq => hf.same q (World.ownsRow.lt hr q hq).2 (fun h => h))
  exact ⟨(hf.same _ (Array.getElem?_eq_some_iff.1 h.blk).1 (fun h => h)).trans h.blk, er h.rI, er h.rE, er h.rN,
    fun e he => ⟨(h.fI e he).1.fr hf, (h.fI e he).2.1.fr hf, (h.fI e he).2.2.1.fr hf, (h.fI e he).2.2.2.fr hf⟩, fun e he => ⟨(h.fE e he).1.fr hf, (h.fE e he).2.1.fr hf, (h.fE e he).2.2.1.fr hf, (h.fE e he).2.2.2.fr hf⟩, fun e he => ⟨(h.fN e he).1.fr hf, (h.fN e he).2.1.fr hf, (h.fN e he).2.2.1.fr hf, (h.fN e he).2.2.2.fr hf⟩⟩
/-- An entry's cells. -/
theorem ent_cells {w : World} {B e : Nat} {v : Value} {es : List Ent} (h : w.ownsRow B e 5 v es.length (flat5 es)) {i : Nat} (hi : i < es.length) : ∃ g c, v = .slice (some ⟨g, 0, none⟩) es.length c ∧ w.cell? ⟨g, i * 5, none⟩ = some (es[i]).l ∧ w.cell? ⟨g, i * 5 + 1, none⟩ = some (es[i]).a ∧ w.cell? ⟨g, i * 5 + 2, none⟩ = some (es[i]).b ∧ w.cell? ⟨g, i * 5 + 3, none⟩ = some (es[i]).c ∧ w.cell? ⟨g, i * 5 + 4, none⟩ = some (.int .i64 (es[i]).m) := by
  obtain ⟨g, c, hv, _, _, hc⟩ := row_cell h (by omega)
  obtain ⟨g0, g1, g2, g3, g4⟩ := flat5_get es i es[i] (List.getElem?_eq_getElem hi)
  exact ⟨g, c, hv, hc _ _ g0, hc _ _ g1, hc _ _ g2, hc _ _ g3, hc _ _ g4⟩
theorem FullI.shape {w : World} {v : Value} {m : Int} (h : FullI w v m) : ∃ a n c, v = .slice a n c := by obtain ⟨a, n, c, hv, _⟩ := h; exact ⟨a, n, c, hv⟩
theorem FullE.shape {w : World} {v : Value} {m : Int} (h : FullE w v m) : ∃ a n c, v = .slice a n c := by obtain ⟨a, n, c, hv, _⟩ := h; exact ⟨a, n, c, hv⟩
theorem FullN.shape {w : World} {v : Value} {m : Int} (h : FullN w v m) : ∃ a n c, v = .slice a n c := by obtain ⟨a, n, c, hv, _⟩ := h; exact ⟨a, n, c, hv⟩
end Go.Proofs.YtfmbebofllgmoaaGreatDoor
namespace Go.Proofs.YtfmbebofllgmoaaGreatDoor
open Go.RowKit
attribute [local go_sem ↓] Go.wp_at_zero Go.wp_at_succ

set_option maxHeartbeats 4000000 in
set_option maxRecDepth 20000 in
theorem looks_any {w : World} {B bb : Nat} {n : Int} {vI vE vN : Value} {LI LE LN : List Ent} (h : BookIn w B bb n vI vE vN LI LE LN) (hI : LI.length ≤ 1000000000000) (hE : LE.length ≤ 1000000000000) (hN : LN.length ≤ 1000000000000) :
    Calls Tryz.prog 24 #[.pointer (some ⟨bb, 0, none⟩)] w fun e w' => e = .returned (.bool true) ∧ Fr (fun _ => False) w w' (fun _ => False) := by
  obtain ⟨aI, cI, rfl⟩ := row_shape h.rI
  obtain ⟨aE, cE, rfl⟩ := row_shape h.rE
  obtain ⟨aN, cN, rfl⟩ := row_shape h.rN
  have HB := hide h
  clear h
  go_enter Tryz.func24, Tryz.ntmps24
  go_wp2
  go_loopw [3] (fun i wr => ∃ j : Nat, j ≤ LI.length ∧ i = .int .i64 j ∧ Fr (fun _ => False) w wr (fun _ => False)) (fun i _ => LI.length - (intOf i).toNat)
  case atStart => exact ⟨0, Nat.zero_le _, rfl, Fr.refl _ _⟩
  case round =>
    obtain ⟨j, hj, rfl, hfr⟩ := hrel
    have hb := (unhide HB).fr hfr
    have cb := fun i => cell_of_row wr _ i _ 65 (0, 0) hb.blk
    by_cases hlt : j < LI.length
    · obtain ⟨g, cc, hv, k0, k1, k2, k3, k4⟩ := ent_cells hb.rI hlt
      injection hv with hv1 hv2 hv3
      subst hv1
      obtain ⟨f0, f1, f2, f3⟩ := hb.fI _ (List.getElem_mem hlt)
      generalize LI[j] = e at *
      obtain ⟨el, ea, eb, ec, em⟩ := e
      simp only at k0 k1 k2 k3 k4 f0 f1 f2 f3
      obtain ⟨a0, n0, c0, rfl⟩ := f0.shape
      obtain ⟨a1, n1, c1, rfl⟩ := f1.shape
      obtain ⟨a2, n2, c2, rfl⟩ := f2.shape
      obtain ⟨a3, n3, c3, rfl⟩ := f3.shape
      have fa : Fr (fun _ => False) wr (wr.alloc (.cells #[.slice a0 n0 c0, .slice a1 n1 c1, .slice a2 n2 c2, .slice a3 n3 c3, .int .i64 em] 105)) (fun _ => False) := (Fr.refl _ _).alloc _
      have xb := heap_alloc_new wr (.cells #[.slice a0 n0 c0, .slice a1 n1 c1, .slice a2 n2 c2, .slice a3 n3 c3, .int .i64 em] 105)
      have HF := hide (fun (W : World) (hW : Fr (fun _ => False) (wr.alloc (.cells #[.slice a0 n0 c0, .slice a1 n1 c1, .slice a2 n2 c2, .slice a3 n3 c3, .int .i64 em] 105)) W (fun _ => False)) => And.intro (f0.fr (fa.trans hW)) (And.intro (f1.fr (fa.trans hW)) (And.intro (f2.fr (fa.trans hW)) (f3.fr (fa.trans hW)))))
      have HX := hide (fun (W : World) (hW : Fr (fun _ => False) (wr.alloc (.cells #[.slice a0 n0 c0, .slice a1 n1 c1, .slice a2 n2 c2, .slice a3 n3 c3, .int .i64 em] 105)) W (fun _ => False)) (i : Nat) => cell_of_row W _ i _ 105 (0, 0) ((hW.same wr.heap.size (by simp) (fun h => h)).trans xb))
      have H0 := hide (fun (W : World) (hW : Fr (fun _ => False) (wr.alloc (.cells #[.slice a0 n0 c0, .slice a1 n1 c1, .slice a2 n2 c2, .slice a3 n3 c3, .int .i64 em] 105)) W (fun _ => False)) => (fullInts_any (unhide HF W hW).1))
      have H1 := hide (fun (W : World) (hW : Fr (fun _ => False) (wr.alloc (.cells #[.slice a0 n0 c0, .slice a1 n1 c1, .slice a2 n2 c2, .slice a3 n3 c3, .int .i64 em] 105)) W (fun _ => False)) => (fullInts_any (unhide HF W hW).2.1))
      have H2 := hide (fun (W : World) (hW : Fr (fun _ => False) (wr.alloc (.cells #[.slice a0 n0 c0, .slice a1 n1 c1, .slice a2 n2 c2, .slice a3 n3 c3, .int .i64 em] 105)) W (fun _ => False)) => (fullInts_any (unhide HF W hW).2.2.1))
      have H3 := hide (fun (W : World) (hW : Fr (fun _ => False) (wr.alloc (.cells #[.slice a0 n0 c0, .slice a1 n1 c1, .slice a2 n2 c2, .slice a3 n3 c3, .int .i64 em] 105)) W (fun _ => False)) => (fullInts_any (unhide HF W hW).2.2.2))
      have FA := hide fa
      have FW := hide hfr
      have FC := hide (Fr.refl (fun _ => False) (wr.alloc (.cells #[.slice a0 n0 c0, .slice a1 n1 c1, .slice a2 n2 c2, .slice a3 n3 c3, .int .i64 em] 105)))
      have hk0 : (0 : Int) ≤ (j : Int) := by omega
      have hk1 : (j : Int) < (LI.length : Int) := by omega
      have xc := unhide HX _ (unhide FC)
      clear f0 f1 f2 f3 fa xb hb hfr hv2 hv3 HF
      go_wp2_with (go_at_call 47; (first | (refine (unhide H0 _ (unhide FC)).mono ?_; clear H0) | (refine (unhide H1 _ (unhide FC)).mono ?_; clear H1) | (refine (unhide H2 _ (unhide FC)).mono ?_; clear H2) | (refine (unhide H3 _ (unhide FC)).mono ?_; clear H3)); rintro e w' ⟨rfl, hw'⟩; rw [hw']; clear hw' w')
      go_roundw
      case rel => exact ⟨j + 1, by omega, by go_num, (unhide FW).trans (unhide FA)⟩
      case measure => simp [intOf]; omega
    · have hk1 : ¬ (j : Int) < (LI.length : Int) := by omega
      have FW3 := hide hfr
      clear hb hfr
      go_wp2
      clear cb
      go_loopw [5] (fun i wr => ∃ j : Nat, j ≤ LE.length ∧ i = .int .i64 j ∧ Fr (fun _ => False) w wr (fun _ => False)) (fun i _ => LE.length - (intOf i).toNat)
      case atStart => exact ⟨0, Nat.zero_le _, rfl, unhide FW3⟩
      case round =>
        obtain ⟨j, hj, rfl, hfr⟩ := hrel
        have hb := (unhide HB).fr hfr
        have cb := fun i => cell_of_row wr _ i _ 65 (0, 0) hb.blk
        by_cases hlt : j < LE.length
        · obtain ⟨g, cc, hv, k0, k1, k2, k3, k4⟩ := ent_cells hb.rE hlt
          injection hv with hv1 hv2 hv3
          subst hv1
          obtain ⟨f0, f1, f2, f3⟩ := hb.fE _ (List.getElem_mem hlt)
          generalize LE[j] = e at *
          obtain ⟨el, ea, eb, ec, em⟩ := e
          simp only at k0 k1 k2 k3 k4 f0 f1 f2 f3
          obtain ⟨a0, n0, c0, rfl⟩ := f0.shape
          obtain ⟨a1, n1, c1, rfl⟩ := f1.shape
          obtain ⟨a2, n2, c2, rfl⟩ := f2.shape
          obtain ⟨a3, n3, c3, rfl⟩ := f3.shape
          have fa : Fr (fun _ => False) wr (wr.alloc (.cells #[.slice a0 n0 c0, .slice a1 n1 c1, .slice a2 n2 c2, .slice a3 n3 c3, .int .i64 em] 108)) (fun _ => False) := (Fr.refl _ _).alloc _
          have xb := heap_alloc_new wr (.cells #[.slice a0 n0 c0, .slice a1 n1 c1, .slice a2 n2 c2, .slice a3 n3 c3, .int .i64 em] 108)
          have HF := hide (fun (W : World) (hW : Fr (fun _ => False) (wr.alloc (.cells #[.slice a0 n0 c0, .slice a1 n1 c1, .slice a2 n2 c2, .slice a3 n3 c3, .int .i64 em] 108)) W (fun _ => False)) => And.intro (f0.fr (fa.trans hW)) (And.intro (f1.fr (fa.trans hW)) (And.intro (f2.fr (fa.trans hW)) (f3.fr (fa.trans hW)))))
          have HX := hide (fun (W : World) (hW : Fr (fun _ => False) (wr.alloc (.cells #[.slice a0 n0 c0, .slice a1 n1 c1, .slice a2 n2 c2, .slice a3 n3 c3, .int .i64 em] 108)) W (fun _ => False)) (i : Nat) => cell_of_row W _ i _ 108 (0, 0) ((hW.same wr.heap.size (by simp) (fun h => h)).trans xb))
          have H0 := hide (fun (W : World) (hW : Fr (fun _ => False) (wr.alloc (.cells #[.slice a0 n0 c0, .slice a1 n1 c1, .slice a2 n2 c2, .slice a3 n3 c3, .int .i64 em] 108)) W (fun _ => False)) => (fullEvents_any (unhide HF W hW).1))
          have H1 := hide (fun (W : World) (hW : Fr (fun _ => False) (wr.alloc (.cells #[.slice a0 n0 c0, .slice a1 n1 c1, .slice a2 n2 c2, .slice a3 n3 c3, .int .i64 em] 108)) W (fun _ => False)) => (fullEvents_any (unhide HF W hW).2.1))
          have H2 := hide (fun (W : World) (hW : Fr (fun _ => False) (wr.alloc (.cells #[.slice a0 n0 c0, .slice a1 n1 c1, .slice a2 n2 c2, .slice a3 n3 c3, .int .i64 em] 108)) W (fun _ => False)) => (fullEvents_any (unhide HF W hW).2.2.1))
          have H3 := hide (fun (W : World) (hW : Fr (fun _ => False) (wr.alloc (.cells #[.slice a0 n0 c0, .slice a1 n1 c1, .slice a2 n2 c2, .slice a3 n3 c3, .int .i64 em] 108)) W (fun _ => False)) => (fullEvents_any (unhide HF W hW).2.2.2))
          have FA := hide fa
          have FW := hide hfr
          have FC := hide (Fr.refl (fun _ => False) (wr.alloc (.cells #[.slice a0 n0 c0, .slice a1 n1 c1, .slice a2 n2 c2, .slice a3 n3 c3, .int .i64 em] 108)))
          have hk0 : (0 : Int) ≤ (j : Int) := by omega
          have hk1 : (j : Int) < (LE.length : Int) := by omega
          have xc := unhide HX _ (unhide FC)
          clear f0 f1 f2 f3 fa xb hb hfr hv2 hv3 HF
          go_wp2_with (go_at_call 48; (first | (refine (unhide H0 _ (unhide FC)).mono ?_; clear H0) | (refine (unhide H1 _ (unhide FC)).mono ?_; clear H1) | (refine (unhide H2 _ (unhide FC)).mono ?_; clear H2) | (refine (unhide H3 _ (unhide FC)).mono ?_; clear H3)); rintro e w' ⟨rfl, f'⟩; have FC := hide ((unhide FC).trans f'); have xc := unhide HX _ (unhide FC); clear f')
          go_roundw
          case rel => exact ⟨j + 1, by omega, by go_num, ((unhide FW).trans (unhide FA)).trans (unhide FC)⟩
          case measure => simp [intOf]; omega
        · have hk1 : ¬ (j : Int) < (LE.length : Int) := by omega
          have FW5 := hide hfr
          clear hb hfr
          go_wp2
          clear cb
          go_loopw [7] (fun i wr => ∃ j : Nat, j ≤ LN.length ∧ i = .int .i64 j ∧ Fr (fun _ => False) w wr (fun _ => False)) (fun i _ => LN.length - (intOf i).toNat)
          case atStart => exact ⟨0, Nat.zero_le _, rfl, unhide FW5⟩
          case round =>
            obtain ⟨j, hj, rfl, hfr⟩ := hrel
            have hb := (unhide HB).fr hfr
            have cb := fun i => cell_of_row wr _ i _ 65 (0, 0) hb.blk
            by_cases hlt : j < LN.length
            · obtain ⟨g, cc, hv, k0, k1, k2, k3, k4⟩ := ent_cells hb.rN hlt
              injection hv with hv1 hv2 hv3
              subst hv1
              obtain ⟨f0, f1, f2, f3⟩ := hb.fN _ (List.getElem_mem hlt)
              generalize LN[j] = e at *
              obtain ⟨el, ea, eb, ec, em⟩ := e
              simp only at k0 k1 k2 k3 k4 f0 f1 f2 f3
              obtain ⟨a0, n0, c0, rfl⟩ := f0.shape
              obtain ⟨a1, n1, c1, rfl⟩ := f1.shape
              obtain ⟨a2, n2, c2, rfl⟩ := f2.shape
              obtain ⟨a3, n3, c3, rfl⟩ := f3.shape
              have fa : Fr (fun _ => False) wr (wr.alloc (.cells #[.slice a0 n0 c0, .slice a1 n1 c1, .slice a2 n2 c2, .slice a3 n3 c3, .int .i64 em] 111)) (fun _ => False) := (Fr.refl _ _).alloc _
              have xb := heap_alloc_new wr (.cells #[.slice a0 n0 c0, .slice a1 n1 c1, .slice a2 n2 c2, .slice a3 n3 c3, .int .i64 em] 111)
              have HF := hide (fun (W : World) (hW : Fr (fun _ => False) (wr.alloc (.cells #[.slice a0 n0 c0, .slice a1 n1 c1, .slice a2 n2 c2, .slice a3 n3 c3, .int .i64 em] 111)) W (fun _ => False)) => And.intro (f0.fr (fa.trans hW)) (And.intro (f1.fr (fa.trans hW)) (And.intro (f2.fr (fa.trans hW)) (f3.fr (fa.trans hW)))))
              have HX := hide (fun (W : World) (hW : Fr (fun _ => False) (wr.alloc (.cells #[.slice a0 n0 c0, .slice a1 n1 c1, .slice a2 n2 c2, .slice a3 n3 c3, .int .i64 em] 111)) W (fun _ => False)) (i : Nat) => cell_of_row W _ i _ 111 (0, 0) ((hW.same wr.heap.size (by simp) (fun h => h)).trans xb))
              have H0 := hide (fun (W : World) (hW : Fr (fun _ => False) (wr.alloc (.cells #[.slice a0 n0 c0, .slice a1 n1 c1, .slice a2 n2 c2, .slice a3 n3 c3, .int .i64 em] 111)) W (fun _ => False)) => (fullInputs_any (unhide HF W hW).1))
              have H1 := hide (fun (W : World) (hW : Fr (fun _ => False) (wr.alloc (.cells #[.slice a0 n0 c0, .slice a1 n1 c1, .slice a2 n2 c2, .slice a3 n3 c3, .int .i64 em] 111)) W (fun _ => False)) => (fullInputs_any (unhide HF W hW).2.1))
              have H2 := hide (fun (W : World) (hW : Fr (fun _ => False) (wr.alloc (.cells #[.slice a0 n0 c0, .slice a1 n1 c1, .slice a2 n2 c2, .slice a3 n3 c3, .int .i64 em] 111)) W (fun _ => False)) => (fullInputs_any (unhide HF W hW).2.2.1))
              have H3 := hide (fun (W : World) (hW : Fr (fun _ => False) (wr.alloc (.cells #[.slice a0 n0 c0, .slice a1 n1 c1, .slice a2 n2 c2, .slice a3 n3 c3, .int .i64 em] 111)) W (fun _ => False)) => (fullInputs_any (unhide HF W hW).2.2.2))
              have FA := hide fa
              have FW := hide hfr
              have FC := hide (Fr.refl (fun _ => False) (wr.alloc (.cells #[.slice a0 n0 c0, .slice a1 n1 c1, .slice a2 n2 c2, .slice a3 n3 c3, .int .i64 em] 111)))
              have hk0 : (0 : Int) ≤ (j : Int) := by omega
              have hk1 : (j : Int) < (LN.length : Int) := by omega
              have xc := unhide HX _ (unhide FC)
              clear f0 f1 f2 f3 fa xb hb hfr hv2 hv3 HF
              go_wp2_with (go_at_call 49; (first | (refine (unhide H0 _ (unhide FC)).mono ?_; clear H0) | (refine (unhide H1 _ (unhide FC)).mono ?_; clear H1) | (refine (unhide H2 _ (unhide FC)).mono ?_; clear H2) | (refine (unhide H3 _ (unhide FC)).mono ?_; clear H3)); rintro e w' ⟨rfl, hw'⟩; rw [hw']; clear hw' w')
              go_roundw
              case rel => exact ⟨j + 1, by omega, by go_num, (unhide FW).trans (unhide FA)⟩
              case measure => simp [intOf]; omega
            · have hk1 : ¬ (j : Int) < (LN.length : Int) := by omega
              have FW7 := hide hfr
              clear hb hfr
              go_wp2
              go_ret
              exact ⟨rfl, unhide FW7⟩
end Go.Proofs.YtfmbebofllgmoaaGreatDoor
namespace Go.Proofs.YtfmbebofllgmoaaGreatDoor
open Go.RowKit

/-- Where a slice with elements lies. -/
def LiesIn (v : Value) (K : Nat → Prop) : Prop := ∀ q off n c, v = .slice (some ⟨q, off, none⟩) n c → 0 < n → K q
theorem LiesIn.mono {v : Value} {K K' : Nat → Prop} (h : LiesIn v K) (hk : ∀ q, K q → K' q) : LiesIn v K' := fun q off n c hv hn => hk q (h q off n c hv hn)
section
variable {w W : World} {v : Value} {m : Int} {K : Nat → Prop}
theorem FullI.keep (h : FullI w v m) (hl : LiesIn v K) (hk : ∀ q, K q → W.heap[q]? = w.heap[q]?) : FullI W v m := by
  obtain ⟨a, n, c, rfl, hn, hc⟩ := h
  refine ⟨a, n, c, rfl, hn, ?_⟩
  rcases Nat.eq_zero_or_pos n with h0 | h0
  · exact .inl h0
  rcases hc with h1 | ⟨q, off, rfl, hcell⟩
  · omega
  have hq := hk q (hl q off n c rfl h0)
  exact .inr ⟨q, off, rfl, fun i hi => by rw [cellOf_heap hq]; exact hcell i hi⟩
theorem FullE.keep (h : FullE w v m) (hl : LiesIn v K) (hk : ∀ q, K q → W.heap[q]? = w.heap[q]?) : FullE W v m := by
  obtain ⟨a, n, c, rfl, hn, hc⟩ := h
  refine ⟨a, n, c, rfl, hn, ?_⟩
  rcases Nat.eq_zero_or_pos n with h0 | h0
  · exact .inl h0
  rcases hc with h1 | ⟨q, off, rfl, hcell⟩
  · omega
  have hq := hk q (hl q off n c rfl h0)
  exact .inr ⟨q, off, rfl, fun i hi => by rw [cellOf_heap hq, cellOf_heap hq, cellOf_heap hq]; exact hcell i hi⟩
theorem FullN.keep (h : FullN w v m) (hl : LiesIn v K) (hk : ∀ q, K q → W.heap[q]? = w.heap[q]?) : FullN W v m := by
  obtain ⟨a, n, c, rfl, hn, hc⟩ := h
  refine ⟨a, n, c, rfl, hn, ?_⟩
  rcases Nat.eq_zero_or_pos n with h0 | h0
  · exact .inl h0
  rcases hc with h1 | ⟨q, off, rfl, hcell⟩
  · omega
  have hq := hk q (hl q off n c rfl h0)
  exact .inr ⟨q, off, rfl, fun i hi => by rw [cellOf_heap hq, cellOf_heap hq, cellOf_heap hq, cellOf_heap hq]; exact hcell i hi⟩
/-- An own row of one number. -/
theorem OwnI.full {B : Nat} {l : List Int} (h : OwnI w B v l) (hl : l.length ≤ 1000000000) (hm : ∀ z, z ∈ l → z = m) : FullI w v m := by
  obtain ⟨a, c, hv, hc⟩ := ownI_ints h
  refine ⟨a, l.length, c, hv, hl, ?_⟩
  rcases hc with h0 | ⟨q, off, ha, _, hcell⟩
  · exact .inl (by rw [h0]; rfl)
  · refine .inr ⟨q, off, ha, fun i hi => ?_⟩
    rw [hcell i hi]
    have : l.getD i 0 = m := by
      rw [List.getD_eq_getElem?_getD, List.getElem?_eq_getElem hi]
      exact hm _ (List.getElem_mem hi)
    rw [this]
theorem own_lies : LiesIn v (own v) := fun q off n' c hv _ => by
  rw [hv]; rfl
end
/-- The Book, and where its lists lie. -/
structure BookK (w : World) (B bb : Nat) (n : Int) (vI vE vN : Value) (LI LE LN : List Ent) (K : Nat → Prop) : Prop where
  bk : BookIn w B bb n vI vE vN LI LE LN
  lI : ∀ e, e ∈ LI → LiesIn e.l K ∧ LiesIn e.a K ∧ LiesIn e.b K ∧ LiesIn e.c K
  lE : ∀ e, e ∈ LE → LiesIn e.l K ∧ LiesIn e.a K ∧ LiesIn e.b K ∧ LiesIn e.c K
  lN : ∀ e, e ∈ LN → LiesIn e.l K ∧ LiesIn e.a K ∧ LiesIn e.b K ∧ LiesIn e.c K
  apart : ∀ q, K q → q < w.heap.size ∧ q ≠ bb ∧ ¬ own vI q ∧ ¬ own vE q ∧ ¬ own vN q
theorem BookK.fr {w W : World} {B bb : Nat} {n : Int} {vI vE vN : Value} {LI LE LN : List Ent} {K : Nat → Prop} (h : BookK w B bb n vI vE vN LI LE LN K) (hf : Fr (fun _ => False) w W (fun _ => False)) : BookK W B bb n vI vE vN LI LE LN K :=
  ⟨h.bk.fr hf, h.lI, h.lE, h.lN, fun q hq => ⟨Nat.lt_of_lt_of_le (h.apart q hq).1 hf.size, (h.apart q hq).2⟩⟩
end Go.Proofs.YtfmbebofllgmoaaGreatDoor
namespace Go.Proofs.YtfmbebofllgmoaaGreatDoor
open Go.RowKit

theorem wpList_both {ops : Array Oper} {rest : List Oper} {o : Oper} {a : Act} {Q : Exit → Act → World → Prop} {w : World} {B t e size bytes : Nat} (E : Elem t e size bytes) (hs0 : 0 < size) (hs1 : bytes ≤ 200) {v : Value} {n m : Nat} {xs news : List Value} (hgd : o.guard = none) (sv xv : Operand)
    (ho : o.op = .call { callee := .builtin .append, args := #[sv, xv], argTypes := #[t, t] }) {ad : Addr} {cap : Nat} (hs : a.eval sv = v) (hx : a.eval xv = .slice (some ad) m cap) (hrow : w.ownsRow B e size v n xs) (hl : news.length = m * size)
    (hc : ∀ j u, news[j]? = some u → w.cell? (ad.add j) = some u) (h1 : ∀ u ∈ news, u.oneCell' = true) (hm : 0 < m) (hn : n + m ≤ 100000000000) (hB : B ≤ w.heap.size)
    (h : ∀ v' w', (∃ a c, v' = .slice a (n + m) c) → w'.ownsRow B e size v' (n + m) (xs ++ news) →
      ((∃ g cp, v = .slice (some ⟨g, 0, none⟩) n cp ∧ v' = .slice (some ⟨g, 0, none⟩) (n + m) cp ∧ n + m ≤ cp ∧ w.grownBy w' (some g)) ∨ (w.grownBy w' none ∧ ∀ q, own v' q → w.heap.size ≤ q)) → wpList Tryz.prog ops Q rest (a.put o.dst v') w') : wpList Tryz.prog ops Q (o :: rest) a w := by
  obtain ⟨i, z, hi, hz, hsz, hby, hzc⟩ := E.i
  have hmx : n + m ≤ maxLen := by simp only [maxLen]; omega
  have hbb : (n + m) * bytes ≤ 140737488355328 := Nat.le_trans (Nat.mul_le_mul hn hs1) (by omega)
  have hlen : xs.length = n * size := hrow.1
  have fresh : ∀ v' w', w'.ownsRow w.heap.size e size v' (n + m) (xs ++ news) → w.grownBy w' none → wpList Tryz.prog ops Q rest (a.put o.dst v') w' := fun v' w' r1 r2 =>
    h v' w' (row_shape r1) (ownsRow_low r1 hB) (.inr ⟨r2, fun q hq => (World.ownsRow.lt r1 q hq).1⟩)
  rcases hrow.2 with ⟨hv, h0⟩ | ⟨g, cp, cur, hv, hBg, hg, hcp, hcm, hcs, htk⟩
  · subst h0
    have hx0 : xs = [] := List.eq_nil_of_length_eq_zero (by rw [hlen]; simp)
    refine wpList_append_grows (P := Tryz.prog) w hgd sv xv t ho e i z size bytes E.u hi hz hsz hby hzc hs0 none 0 0 xs (by rw [hs, hv]) (fun _ => ⟨rfl, rfl⟩) (by rw [hx0]; simp) (fun b hb => by cases hb) ad m cap news hx hl hc h1 (by omega) hmx hbb fresh
  · by_cases hr : n + m ≤ cp
    · refine wpList_append_own_spare (P := Tryz.prog) w hgd sv xv t ho B e i size E.u hi hsz g n cp xs (by rw [hs, hv]) (hv ▸ hrow) ad m cap news hx hl hc h1 hr ?_
      intro w' r1 r2
      exact h _ w' ⟨_, _, rfl⟩ r1 (.inl ⟨g, cp, hv, rfl, hr, r2⟩)
    · refine wpList_append_grows (P := Tryz.prog) w hgd sv xv t ho e i z size bytes E.u hi hz hsz hby hzc hs0 (some ⟨g, 0, none⟩) n cp xs (by rw [hs, hv]) (fun h => by cases h) hlen (fun b hb j u hj => ?_) ad m cap news hx hl hc h1 (by omega) hmx hbb fresh
      cases hb
      obtain ⟨g2, c2, hv2, _, _, hcell⟩ := row_cell hrow (by
        have := (List.getElem?_eq_some_iff.1 hj).1
        rw [hlen] at this
        rcases Nat.eq_zero_or_pos n with h0 | h0
        · rw [h0] at this; simp at this
        · exact h0)
      rw [hv] at hv2
      cases hv2
      have hh := hcell j u hj
      rw [show Addr.add ⟨g, 0, none⟩ j = ⟨g, j, none⟩ by rw [addr_add, Nat.zero_add]]
      exact hh

/-- A list of marks that was made of an own list: in its block, or in a block of its own. -/
def MadeI (w : World) (lv : Value) (n : Nat) (u : Value) (k : Nat) (m : Int) : Prop :=
  FullI w u m ∧ ((∃ g cp, lv = .slice (some ⟨g, 0, none⟩) n cp ∧ u = .slice (some ⟨g, 0, none⟩) (n + k) cp) ∨ (∀ q, own u q → ¬ own lv q ∧ ∃ cur, w.heap[q]? = some (.cells cur 3 (0, 0))))
/-- One more append of marks keeps what was made. -/
theorem MadeI.step {w w' : World} {B : Nat} {lv u v' : Value} {n k j : Nat} {m : Int} {l : List Int} (h : MadeI w lv n u k m) (hk : k ≤ j) (hn : n + j ≤ 1000000000) (hr : w'.ownsRow B 3 1 v' (n + j) (l.map fun z => Value.int .i64 z)) (hm : ∀ z, z ∈ l → z = m)
    (hd : (∃ g cp, lv = .slice (some ⟨g, 0, none⟩) n cp ∧ v' = .slice (some ⟨g, 0, none⟩) (n + j) cp ∧ n + j ≤ cp ∧ w.grownBy w' (some g)) ∨ (w.grownBy w' none ∧ ∀ q, own v' q → w.heap.size ≤ q)) : MadeI w' lv n u k m := by
  obtain ⟨hf, hp⟩ := h
  rcases hd with ⟨g, cp, hlv, hv', hroom, hg⟩ | ⟨hg, _⟩
  · rcases hp with ⟨g2, cp2, hlv2, hu⟩ | hp
    · rw [hlv] at hlv2
      cases hlv2
      refine ⟨?_, .inl ⟨g, cp, hlv, hu⟩⟩
      subst hv'
      have hll : l.length = n + j := by have := hr.1; simpa using this
      obtain ⟨hcell⟩ : Nonempty (∀ i, i < n + j → w'.cell? ⟨g, i, none⟩ = some (.int .i64 m)) := ⟨fun i hi => by
        obtain ⟨g3, c3, hv3, _, _, hc3⟩ := row_cell hr (by omega)
        cases hv3
        have hi' : i < l.length := by omega
        refine hc3 i _ ?_
        rw [List.getElem?_map, List.getElem?_eq_getElem hi']
        simp only [Option.map_some]
        rw [hm _ (List.getElem_mem hi')]⟩
      exact ⟨some ⟨g, 0, none⟩, n + k, cp, hu, by omega, .inr ⟨g, 0, rfl, fun i hi => by rw [Nat.zero_add]; exact hcell i (by omega)⟩⟩
    · have hk' : ∀ q, own u q → w'.heap[q]? = w.heap[q]? := fun q hq => hg.block q (by obtain ⟨cur, hcur⟩ := (hp q hq).2; exact (Array.getElem?_eq_some_iff.1 hcur).1) (fun e => (hp q hq).1 (by rw [hlv]; simp only [own, Value.ownBlock]; exact e.symm))
      exact ⟨hf.keep own_lies hk', .inr (fun q hq => ⟨(hp q hq).1, by obtain ⟨cur, hcur⟩ := (hp q hq).2; exact ⟨cur, (hk' q hq).trans hcur⟩⟩)⟩
  · have hall : ∀ q, q < w.heap.size → w'.heap[q]? = w.heap[q]? := fun q hq => hg.block q hq (by simp)
    refine ⟨?_, hp.imp id (fun hp q hq => ⟨(hp q hq).1, by obtain ⟨cur, hcur⟩ := (hp q hq).2; exact ⟨cur, (hall q (Array.getElem?_eq_some_iff.1 hcur).1).trans hcur⟩⟩)⟩
    obtain ⟨a, nn, c, hv, hnn, hc⟩ := hf
    exact ⟨a, nn, c, hv, hnn, hc.imp id fun ⟨q, off, e, hcell⟩ => ⟨q, off, e, fun i hi => by rw [cellOf_heap (hall q (World.block_lt_of_cell? w _ (hcell i hi)))]; exact hcell i hi⟩⟩
/-- A store elsewhere keeps what was made. -/
theorem MadeI.store {w : World} {lv u v : Value} {n k X j : Nat} {m : Int} {cX : Array Value} {e : Nat} (h : MadeI w lv n u k m) (hX : w.heap[X]? = some (.cells cX e (0, 0))) (he : e ≠ 3) (hlv : ¬ own lv X) : MadeI (w.setCell ⟨X, j, none⟩ v) lv n u k m := by
  obtain ⟨hf, hp⟩ := h
  have hk : ∀ q, q ≠ X → (w.setCell ⟨X, j, none⟩ v).heap[q]? = w.heap[q]? := fun q hq => Below.heap_setCell _ _ _ _ hq
  rcases hp with ⟨g, cp, hl, hu⟩ | hp
  · refine ⟨hf.keep (K := fun q => q = g) (fun q off n' c hv _ => by rw [hu] at hv; cases hv; rfl) (fun q hq => hk q (fun e => hlv (by rw [hl, ← e, hq]; rfl))), .inl ⟨g, cp, hl, hu⟩⟩
  · have hne : ∀ q, own u q → q ≠ X := fun q hq e' => by
      obtain ⟨cur, hcur⟩ := (hp q hq).2
      rw [e', hX] at hcur
      injection hcur with hcur
      injection hcur with _ hcur
      exact he hcur
    exact ⟨hf.keep own_lies (fun q hq => hk q (hne q hq)), .inr (fun q hq => ⟨(hp q hq).1, by obtain ⟨cur, hcur⟩ := (hp q hq).2; exact ⟨cur, (hk q (hne q hq)).trans hcur⟩⟩)⟩
/-- One append of marks to an own list, and the store of what came of it into the entry's block. -/
theorem keep_one {U wa : World} {B X : Nat} {lv va : Value} {n j k : Nat} {m : Int} {rep : List Int} {cX : Array Value} (hrep : rep.length = n) (hm : ∀ z, z ∈ rep → z = m) (hn : n + j ≤ 1000000000) (ho : OwnI U B lv rep) (hX : U.heap[X]? = some (.cells cX 105 (0, 0)))
    (ra : wa.ownsRow B 3 1 va (n + j) ((rep ++ List.replicate j m).map fun z => Value.int .i64 z))
    (hd : (∃ g cp, lv = .slice (some ⟨g, 0, none⟩) n cp ∧ va = .slice (some ⟨g, 0, none⟩) (n + j) cp ∧ n + j ≤ cp ∧ U.grownBy wa (some g)) ∨ (U.grownBy wa none ∧ ∀ q, own va q → U.heap.size ≤ q)) :
    OwnI (wa.setCell ⟨X, k, none⟩ va) B lv rep ∧ (wa.setCell ⟨X, k, none⟩ va).heap[X]? = some (.cells (cX.setIfInBounds k va) 105 (0, 0)) ∧ MadeI (wa.setCell ⟨X, k, none⟩ va) lv n va j m ∧ (∀ u i, i ≤ j → MadeI U lv n u i m → MadeI (wa.setCell ⟨X, k, none⟩ va) lv n u i m) ∧
      Fr (fun q => own lv q ∨ q = X) U (wa.setCell ⟨X, k, none⟩ va) (fun q => own lv q ∨ q = X)  ∧ (∀ q, own va q → own lv q ∨ U.heap.size ≤ q) := by
  have hXl : ¬ own lv X := fun hq => by
    obtain ⟨c, hc⟩ := row_d ho hq
    rw [hX] at hc
    injection hc with hc
    injection hc with _ hc
    exact absurd hc (by decide)
  have old : ∀ q, q < U.heap.size → ¬ own lv q → wa.heap[q]? = U.heap[q]? := fun q hq hn => by
    rcases hd with ⟨g, cp, hl, _, _, hg⟩ | ⟨hg, _⟩
    · exact hg.block q hq (fun e => hn (by rw [hl]; simp only [own, Value.ownBlock]; exact e.symm))
    · exact hg.block q hq (by simp)
  have hXlt := (Array.getElem?_eq_some_iff.1 hX).1
  have hXa : wa.heap[X]? = some (.cells cX 105 (0, 0)) := (old X hXlt hXl).trans hX
  have hsz : U.heap.size ≤ wa.heap.size := by rcases hd with ⟨_, _, _, _, _, hg⟩ | ⟨hg, _⟩ <;> exact hg.size
  have hmm : ∀ z, z ∈ rep ++ List.replicate j m → z = m := fun z hz => by
    rcases List.mem_append.1 hz with h | h
    · exact hm z h
    · exact List.eq_of_mem_replicate h
  have hol : OwnI wa B lv rep := by
    rcases hd with ⟨g, cp, hl, hv, hr, hg⟩ | ⟨hg, _⟩
    · subst hl hv
      rw [List.map_append] at ra
      have := row_prefix ra (by rw [List.length_map, hrep]; omega)
      unfold OwnI
      rw [hrep]
      exact this
    · exact ownsRow_of_block ho (fun q hq => hg.block q (World.ownsRow.lt ho q hq).2 (by simp))
  have hmade : MadeI wa lv n va j m := by
    have hfull : FullI wa va m := OwnI.full (l := rep ++ List.replicate j m) (by unfold OwnI; rw [List.length_append, List.length_replicate, hrep]; exact ra) (by rw [List.length_append, List.length_replicate, hrep]; exact hn) hmm
    refine ⟨hfull, ?_⟩
    rcases hd with ⟨g, cp, hl, hv, _, _⟩ | ⟨_, hf⟩
    · exact .inl ⟨g, cp, hl, hv⟩
    · exact .inr (fun q hq => ⟨fun h => by have h1 := hf q hq; have h2 := (World.ownsRow.lt ho q h).2; omega, row_d ra hq⟩)
  refine ⟨ownsRow_of_block hol (fun q hq => Below.heap_setCell _ _ _ _ (fun e => hXl (by have e' : q = X := e; rw [← e']; exact hq))), setCell_row wa X k cX 105 va hXa, hmade.store hXa (by decide) hXl, fun u i hi hu => (hu.step hi hn ra hmm hd).store hXa (by decide) hXl, ?_⟩
  have h3 : wa.os = U.os ∧ wa.tape = U.tape ∧ wa.output = U.output := by rcases hd with ⟨_, _, _, _, _, hg⟩ | ⟨hg, _⟩ <;> exact ⟨hg.os, hg.tape, hg.output⟩
  refine ⟨⟨h3.1, h3.2.1, h3.2.2, by simpa [World.setCell] using hsz, fun q hq hn => (Below.heap_setCell _ _ _ _ (fun e => hn (.inr e))).trans (old q hq (fun h => hn (.inl h))), fun _ _ h => h⟩, fun q hq => ?_⟩
  rcases hd with ⟨g, cp, hl, hv, _, _⟩ | ⟨_, hf⟩
  · left; rw [hl]; rw [hv] at hq; exact hq
  · exact .inr (hf q hq)
end Go.Proofs.YtfmbebofllgmoaaGreatDoor
namespace Go.Proofs.YtfmbebofllgmoaaGreatDoor
open Go.RowKit

theorem Fr.widen {S S' T : Nat → Prop} {w w' : World} (h : Fr S w w' S') (hs : ∀ q, S q → T q) : Fr T w w' T :=
  ⟨h.os, h.tape, h.output, h.size, fun k hk hn => h.same k hk (fun e => hn (hs k e)), fun _ _ h => h⟩
theorem ty_one {w : World} {q : Nat} {a b : Array Value} {s t : Nat} (h1 : w.heap[q]? = some (.cells a s (0, 0))) (h2 : w.heap[q]? = some (.cells b t (0, 0))) : s = t := by
  rw [h1] at h2
  injection h2 with h2
  injection h2
theorem own_ty {w : World} {B e size n q t : Nat} {v : Value} {xs : List Value} {c : Array Value} (h : w.ownsRow B e size v n xs) (hq : w.heap[q]? = some (.cells c t (0, 0))) (ht : t ≠ e) : ¬ own v q := fun ho => by
  obtain ⟨cur, hc⟩ := row_d h ho
  exact ht (ty_one hq hc)
section
variable {w W : World} {B bb : Nat} {n n' : Int} {vI vE vN v' : Value} {LI LE LN : List Ent} {K K2 T : Nat → Prop} {e : Ent}
/-- The Book where blocks that it does not hang on have turned, and its count. -/
theorem BookK.mid (h : BookK w B bb n vI vE vN LI LE LN K) (hf : Fr T w W T) (hT : ∀ q, q < w.heap.size → T q → q = bb ∨ (¬ K q ∧ ¬ own vI q ∧ ¬ own vE q ∧ ¬ own vN q)) (hbb : W.heap[bb]? = some (.cells #[.int .i64 n', vI, vE, vN] 65)) : BookK W B bb n' vI vE vN LI LE LN K := by
  have rI : ∀ q, own vI q → W.heap[q]? = w.heap[q]? := fun q hq => hf.same q (World.ownsRow.lt h.bk.rI q hq).2 (fun ht => by
    rcases hT q (World.ownsRow.lt h.bk.rI q hq).2 ht with rfl | hh
    · exact own_ty h.bk.rI h.bk.blk (by decide) hq
    · exact hh.2.1 hq)
  have rE : ∀ q, own vE q → W.heap[q]? = w.heap[q]? := fun q hq => hf.same q (World.ownsRow.lt h.bk.rE q hq).2 (fun ht => by
    rcases hT q (World.ownsRow.lt h.bk.rE q hq).2 ht with rfl | hh
    · exact own_ty h.bk.rE h.bk.blk (by decide) hq
    · exact hh.2.2.1 hq)
  have rN : ∀ q, own vN q → W.heap[q]? = w.heap[q]? := fun q hq => hf.same q (World.ownsRow.lt h.bk.rN q hq).2 (fun ht => by
    rcases hT q (World.ownsRow.lt h.bk.rN q hq).2 ht with rfl | hh
    · exact own_ty h.bk.rN h.bk.blk (by decide) hq
    · exact hh.2.2.2 hq)
  have hk : ∀ q, K q → W.heap[q]? = w.heap[q]? := fun q hq => hf.same q (h.apart q hq).1 (fun ht => by
    rcases hT q (h.apart q hq).1 ht with e | hh
    · exact (h.apart q hq).2.1 e
    · exact hh.1 hq)
  refine ⟨⟨hbb, ownsRow_of_block h.bk.rI rI, ownsRow_of_block h.bk.rE rE, ownsRow_of_block h.bk.rN rN, fun e he => ?_, fun e he => ?_, fun e he => ?_⟩, h.lI, h.lE, h.lN, fun q hq => ⟨Nat.lt_of_lt_of_le (h.apart q hq).1 hf.size, (h.apart q hq).2⟩⟩
  · obtain ⟨f1, f2, f3, f4⟩ := h.bk.fI e he
    obtain ⟨l1, l2, l3, l4⟩ := h.lI e he
    exact ⟨f1.keep l1 hk, f2.keep l2 hk, f3.keep l3 hk, f4.keep l4 hk⟩
  · obtain ⟨f1, f2, f3, f4⟩ := h.bk.fE e he
    obtain ⟨l1, l2, l3, l4⟩ := h.lE e he
    exact ⟨f1.keep l1 hk, f2.keep l2 hk, f3.keep l3 hk, f4.keep l4 hk⟩
  · obtain ⟨f1, f2, f3, f4⟩ := h.bk.fN e he
    obtain ⟨l1, l2, l3, l4⟩ := h.lN e he
    exact ⟨f1.keep l1 hk, f2.keep l2 hk, f3.keep l3 hk, f4.keep l4 hk⟩
/-- One more list of kind I. -/
theorem BookK.addI (h : BookK w B bb n vI vE vN LI LE LN K) (hfull : FullI w e.l e.m ∧ FullI w e.a e.m ∧ FullI w e.b e.m ∧ FullI w e.c e.m) (hl : LiesIn e.l K2 ∧ LiesIn e.a K2 ∧ LiesIn e.b K2 ∧ LiesIn e.c K2) (hk2 : ∀ q, K2 q → ∃ cur, w.heap[q]? = some (.cells cur 3 (0, 0)))
    (hr : W.ownsRow B 105 5 v' (LI.length + 1) (flat5 LI ++ [e.l, e.a, e.b, e.c, .int .i64 e.m])) (hf : Fr (own vI) w W (own v')) : BookK (W.setCell ⟨bb, 1, none⟩ v') B bb n v' vE vN (LI ++ [e]) LE LN (fun q => K q ∨ K2 q) := by
  have hbl := (Array.getElem?_eq_some_iff.1 h.bk.blk).1
  have hbn : ¬ own vI bb := own_ty h.bk.rI h.bk.blk (by decide)
  have hbW : W.heap[bb]? = some (.cells #[.int .i64 n, vI, vE, vN] 65) := (hf.same bb hbl hbn).trans h.bk.blk
  have hsz : (W.setCell ⟨bb, 1, none⟩ v').heap.size = W.heap.size := by simp [World.setCell]
  have kq : ∀ q, q ≠ bb → (W.setCell ⟨bb, 1, none⟩ v').heap[q]? = W.heap[q]? := fun q hq => Below.heap_setCell _ _ _ _ hq
  have keepq : ∀ q, q < w.heap.size → ¬ own vI q → q ≠ bb → (W.setCell ⟨bb, 1, none⟩ v').heap[q]? = w.heap[q]? := fun q h1 h2 h3 => (kq q h3).trans (hf.same q h1 h2)
  have rE : ∀ q, own vE q → (W.setCell ⟨bb, 1, none⟩ v').heap[q]? = w.heap[q]? := fun q hq => by
    obtain ⟨cur, hc⟩ := row_d h.bk.rE hq
    exact keepq q (World.ownsRow.lt h.bk.rE q hq).2 (own_ty h.bk.rI hc (by decide)) (fun e => own_ty h.bk.rE h.bk.blk (by decide) (e ▸ hq))
  have rN : ∀ q, own vN q → (W.setCell ⟨bb, 1, none⟩ v').heap[q]? = w.heap[q]? := fun q hq => by
    obtain ⟨cur, hc⟩ := row_d h.bk.rN hq
    exact keepq q (World.ownsRow.lt h.bk.rN q hq).2 (own_ty h.bk.rI hc (by decide)) (fun e => own_ty h.bk.rN h.bk.blk (by decide) (e ▸ hq))
  have hrow : (W.setCell ⟨bb, 1, none⟩ v').ownsRow B 105 5 v' (LI ++ [e]).length (flat5 (LI ++ [e])) := by
    rw [flat5_append, List.length_append]
    exact ownsRow_of_block hr (fun q hq => kq q (fun e => own_ty hr hbW (by decide) (e ▸ hq)))
  have hk : ∀ q, K q → (W.setCell ⟨bb, 1, none⟩ v').heap[q]? = w.heap[q]? := fun q hq => keepq q (h.apart q hq).1 (h.apart q hq).2.2.1 (h.apart q hq).2.1
  have a2 : ∀ q, K2 q → q < w.heap.size ∧ q ≠ bb ∧ ¬ own vI q ∧ ¬ own vE q ∧ ¬ own vN q := fun q hq => by
    obtain ⟨cur, hc⟩ := hk2 q hq
    exact ⟨(Array.getElem?_eq_some_iff.1 hc).1, fun e => absurd (ty_one (e ▸ hc) h.bk.blk) (by decide), own_ty h.bk.rI hc (by decide), own_ty h.bk.rE hc (by decide), own_ty h.bk.rN hc (by decide)⟩
  have hk2' : ∀ q, K2 q → (W.setCell ⟨bb, 1, none⟩ v').heap[q]? = w.heap[q]? := fun q hq => keepq q (a2 q hq).1 (a2 q hq).2.2.1 (a2 q hq).2.1
  have hset := setCell_row W bb 1 _ 65 v' hbW
  have fold : ∀ {P : World → Value → Int → Prop} {L : List Ent}, (∀ v m, P w v m → LiesIn v K → P (W.setCell ⟨bb, 1, none⟩ v') v m) → (∀ e, e ∈ L → P w e.l e.m ∧ P w e.a e.m ∧ P w e.b e.m ∧ P w e.c e.m) → (∀ e, e ∈ L → LiesIn e.l K ∧ LiesIn e.a K ∧ LiesIn e.b K ∧ LiesIn e.c K) → ∀ e, e ∈ L → P (W.setCell ⟨bb, 1, none⟩ v') e.l e.m ∧ P (W.setCell ⟨bb, 1, none⟩ v') e.a e.m ∧ P (W.setCell ⟨bb, 1, none⟩ v') e.b e.m ∧ P (W.setCell ⟨bb, 1, none⟩ v') e.c e.m := fun hp hf hl e he =>
    ⟨hp _ _ (hf e he).1 (hl e he).1, hp _ _ (hf e he).2.1 (hl e he).2.1, hp _ _ (hf e he).2.2.1 (hl e he).2.2.1, hp _ _ (hf e he).2.2.2 (hl e he).2.2.2⟩
  have gI := fold (P := FullI) (fun v m hp hl => hp.keep hl hk) h.bk.fI h.lI
  have gE := fold (P := FullE) (fun v m hp hl => hp.keep hl hk) h.bk.fE h.lE
  have gN := fold (P := FullN) (fun v m hp hl => hp.keep hl hk) h.bk.fN h.lN
  have lift : ∀ {L : List Ent}, (∀ e, e ∈ L → LiesIn e.l K ∧ LiesIn e.a K ∧ LiesIn e.b K ∧ LiesIn e.c K) → ∀ e, e ∈ L → LiesIn e.l (fun q => K q ∨ K2 q) ∧ LiesIn e.a (fun q => K q ∨ K2 q) ∧ LiesIn e.b (fun q => K q ∨ K2 q) ∧ LiesIn e.c (fun q => K q ∨ K2 q) := fun hl e he =>
    ⟨(hl e he).1.mono fun _ => .inl, (hl e he).2.1.mono fun _ => .inl, (hl e he).2.2.1.mono fun _ => .inl, (hl e he).2.2.2.mono fun _ => .inl⟩
  have gI' : ∀ x, x ∈ LI ++ [e] → FullI (W.setCell ⟨bb, 1, none⟩ v') x.l x.m ∧ FullI (W.setCell ⟨bb, 1, none⟩ v') x.a x.m ∧ FullI (W.setCell ⟨bb, 1, none⟩ v') x.b x.m ∧ FullI (W.setCell ⟨bb, 1, none⟩ v') x.c x.m := fun x hx => by
    rcases List.mem_append.1 hx with hx | hx
    · exact gI x hx
    · rw [List.mem_singleton] at hx
      subst hx
      exact ⟨hfull.1.keep hl.1 hk2', hfull.2.1.keep hl.2.1 hk2', hfull.2.2.1.keep hl.2.2.1 hk2', hfull.2.2.2.keep hl.2.2.2 hk2'⟩
  have lI' : ∀ x, x ∈ LI ++ [e] → LiesIn x.l (fun q => K q ∨ K2 q) ∧ LiesIn x.a (fun q => K q ∨ K2 q) ∧ LiesIn x.b (fun q => K q ∨ K2 q) ∧ LiesIn x.c (fun q => K q ∨ K2 q) := fun x hx => by
    rcases List.mem_append.1 hx with hx | hx
    · exact lift h.lI x hx
    · rw [List.mem_singleton] at hx
      subst hx
      exact ⟨hl.1.mono fun _ => .inr, hl.2.1.mono fun _ => .inr, hl.2.2.1.mono fun _ => .inr, hl.2.2.2.mono fun _ => .inr⟩
  have nv : ∀ q, q < w.heap.size → ¬ own vI q → ¬ own v' q := fun q hq hn hv => hn (hf.old q hq hv)
  refine ⟨⟨hset, hrow, ownsRow_of_block h.bk.rE rE, ownsRow_of_block h.bk.rN rN, gI', gE, gN⟩, lI', lift h.lE, lift h.lN, fun q hq => ?_⟩
  rw [hsz]
  rcases hq with hq | hq
  · obtain ⟨x0, x1, x2, x3, x4⟩ := h.apart q hq
    exact ⟨Nat.lt_of_lt_of_le x0 hf.size, x1, nv q x0 x2, x3, x4⟩
  · obtain ⟨x0, x1, x2, x3, x4⟩ := a2 q hq
    exact ⟨Nat.lt_of_lt_of_le x0 hf.size, x1, nv q x0 x2, x3, x4⟩
/-- One more list of kind N. -/
theorem BookK.addN (h : BookK w B bb n vI vE vN LI LE LN K) (hfull : FullN w e.l e.m ∧ FullN w e.a e.m ∧ FullN w e.b e.m ∧ FullN w e.c e.m) (hl : LiesIn e.l K2 ∧ LiesIn e.a K2 ∧ LiesIn e.b K2 ∧ LiesIn e.c K2) (hk2 : ∀ q, K2 q → ∃ cur, w.heap[q]? = some (.cells cur 49 (0, 0)))
    (hr : W.ownsRow B 111 5 v' (LN.length + 1) (flat5 LN ++ [e.l, e.a, e.b, e.c, .int .i64 e.m])) (hf : Fr (own vN) w W (own v')) : BookK (W.setCell ⟨bb, 3, none⟩ v') B bb n vI vE v' LI LE (LN ++ [e]) (fun q => K q ∨ K2 q) := by
  have hbl := (Array.getElem?_eq_some_iff.1 h.bk.blk).1
  have hbn : ¬ own vN bb := own_ty h.bk.rN h.bk.blk (by decide)
  have hbW : W.heap[bb]? = some (.cells #[.int .i64 n, vI, vE, vN] 65) := (hf.same bb hbl hbn).trans h.bk.blk
  have hsz : (W.setCell ⟨bb, 3, none⟩ v').heap.size = W.heap.size := by simp [World.setCell]
  have kq : ∀ q, q ≠ bb → (W.setCell ⟨bb, 3, none⟩ v').heap[q]? = W.heap[q]? := fun q hq => Below.heap_setCell _ _ _ _ hq
  have keepq : ∀ q, q < w.heap.size → ¬ own vN q → q ≠ bb → (W.setCell ⟨bb, 3, none⟩ v').heap[q]? = w.heap[q]? := fun q h1 h2 h3 => (kq q h3).trans (hf.same q h1 h2)
  have rI : ∀ q, own vI q → (W.setCell ⟨bb, 3, none⟩ v').heap[q]? = w.heap[q]? := fun q hq => by
    obtain ⟨cur, hc⟩ := row_d h.bk.rI hq
    exact keepq q (World.ownsRow.lt h.bk.rI q hq).2 (own_ty h.bk.rN hc (by decide)) (fun e => own_ty h.bk.rI h.bk.blk (by decide) (e ▸ hq))
  have rE : ∀ q, own vE q → (W.setCell ⟨bb, 3, none⟩ v').heap[q]? = w.heap[q]? := fun q hq => by
    obtain ⟨cur, hc⟩ := row_d h.bk.rE hq
    exact keepq q (World.ownsRow.lt h.bk.rE q hq).2 (own_ty h.bk.rN hc (by decide)) (fun e => own_ty h.bk.rE h.bk.blk (by decide) (e ▸ hq))
  have hrow : (W.setCell ⟨bb, 3, none⟩ v').ownsRow B 111 5 v' (LN ++ [e]).length (flat5 (LN ++ [e])) := by
    rw [flat5_append, List.length_append]
    exact ownsRow_of_block hr (fun q hq => kq q (fun e => own_ty hr hbW (by decide) (e ▸ hq)))
  have hk : ∀ q, K q → (W.setCell ⟨bb, 3, none⟩ v').heap[q]? = w.heap[q]? := fun q hq => keepq q (h.apart q hq).1 (h.apart q hq).2.2.2.2 (h.apart q hq).2.1
  have a2 : ∀ q, K2 q → q < w.heap.size ∧ q ≠ bb ∧ ¬ own vI q ∧ ¬ own vE q ∧ ¬ own vN q := fun q hq => by
    obtain ⟨cur, hc⟩ := hk2 q hq
    exact ⟨(Array.getElem?_eq_some_iff.1 hc).1, fun e => absurd (ty_one (e ▸ hc) h.bk.blk) (by decide), own_ty h.bk.rI hc (by decide), own_ty h.bk.rE hc (by decide), own_ty h.bk.rN hc (by decide)⟩
  have hk2' : ∀ q, K2 q → (W.setCell ⟨bb, 3, none⟩ v').heap[q]? = w.heap[q]? := fun q hq => keepq q (a2 q hq).1 (a2 q hq).2.2.2.2 (a2 q hq).2.1
  have hset := setCell_row W bb 3 _ 65 v' hbW
  have fold : ∀ {P : World → Value → Int → Prop} {L : List Ent}, (∀ v m, P w v m → LiesIn v K → P (W.setCell ⟨bb, 3, none⟩ v') v m) → (∀ e, e ∈ L → P w e.l e.m ∧ P w e.a e.m ∧ P w e.b e.m ∧ P w e.c e.m) → (∀ e, e ∈ L → LiesIn e.l K ∧ LiesIn e.a K ∧ LiesIn e.b K ∧ LiesIn e.c K) → ∀ e, e ∈ L → P (W.setCell ⟨bb, 3, none⟩ v') e.l e.m ∧ P (W.setCell ⟨bb, 3, none⟩ v') e.a e.m ∧ P (W.setCell ⟨bb, 3, none⟩ v') e.b e.m ∧ P (W.setCell ⟨bb, 3, none⟩ v') e.c e.m := fun hp hf hl e he =>
    ⟨hp _ _ (hf e he).1 (hl e he).1, hp _ _ (hf e he).2.1 (hl e he).2.1, hp _ _ (hf e he).2.2.1 (hl e he).2.2.1, hp _ _ (hf e he).2.2.2 (hl e he).2.2.2⟩
  have gI := fold (P := FullI) (fun v m hp hl => hp.keep hl hk) h.bk.fI h.lI
  have gE := fold (P := FullE) (fun v m hp hl => hp.keep hl hk) h.bk.fE h.lE
  have gN := fold (P := FullN) (fun v m hp hl => hp.keep hl hk) h.bk.fN h.lN
  have lift : ∀ {L : List Ent}, (∀ e, e ∈ L → LiesIn e.l K ∧ LiesIn e.a K ∧ LiesIn e.b K ∧ LiesIn e.c K) → ∀ e, e ∈ L → LiesIn e.l (fun q => K q ∨ K2 q) ∧ LiesIn e.a (fun q => K q ∨ K2 q) ∧ LiesIn e.b (fun q => K q ∨ K2 q) ∧ LiesIn e.c (fun q => K q ∨ K2 q) := fun hl e he =>
    ⟨(hl e he).1.mono fun _ => .inl, (hl e he).2.1.mono fun _ => .inl, (hl e he).2.2.1.mono fun _ => .inl, (hl e he).2.2.2.mono fun _ => .inl⟩
  have gN' : ∀ x, x ∈ LN ++ [e] → FullN (W.setCell ⟨bb, 3, none⟩ v') x.l x.m ∧ FullN (W.setCell ⟨bb, 3, none⟩ v') x.a x.m ∧ FullN (W.setCell ⟨bb, 3, none⟩ v') x.b x.m ∧ FullN (W.setCell ⟨bb, 3, none⟩ v') x.c x.m := fun x hx => by
    rcases List.mem_append.1 hx with hx | hx
    · exact gN x hx
    · rw [List.mem_singleton] at hx
      subst hx
      exact ⟨hfull.1.keep hl.1 hk2', hfull.2.1.keep hl.2.1 hk2', hfull.2.2.1.keep hl.2.2.1 hk2', hfull.2.2.2.keep hl.2.2.2 hk2'⟩
  have lN' : ∀ x, x ∈ LN ++ [e] → LiesIn x.l (fun q => K q ∨ K2 q) ∧ LiesIn x.a (fun q => K q ∨ K2 q) ∧ LiesIn x.b (fun q => K q ∨ K2 q) ∧ LiesIn x.c (fun q => K q ∨ K2 q) := fun x hx => by
    rcases List.mem_append.1 hx with hx | hx
    · exact lift h.lN x hx
    · rw [List.mem_singleton] at hx
      subst hx
      exact ⟨hl.1.mono fun _ => .inr, hl.2.1.mono fun _ => .inr, hl.2.2.1.mono fun _ => .inr, hl.2.2.2.mono fun _ => .inr⟩
  have nv : ∀ q, q < w.heap.size → ¬ own vN q → ¬ own v' q := fun q hq hn hv => hn (hf.old q hq hv)
  refine ⟨⟨hset, ownsRow_of_block h.bk.rI rI, ownsRow_of_block h.bk.rE rE, hrow, gI, gE, gN'⟩, lift h.lI, lift h.lE, lN', fun q hq => ?_⟩
  rw [hsz]
  rcases hq with hq | hq
  · obtain ⟨x0, x1, x2, x3, x4⟩ := h.apart q hq
    exact ⟨Nat.lt_of_lt_of_le x0 hf.size, x1, x2, x3, nv q x0 x4⟩
  · obtain ⟨x0, x1, x2, x3, x4⟩ := a2 q hq
    exact ⟨Nat.lt_of_lt_of_le x0 hf.size, x1, x2, x3, nv q x0 x4⟩
end
theorem step_grown {ops : Array Oper} {o : Oper} {a : Act} {K : Act → World → Prop} {Q : Exit → Act → World → Prop} {E' : Prop} {w : World} {B t e size bytes d : Nat} (hd : o.dst = some d) (E : Elem t e size bytes) (hs0 : 0 < size) (hs1 : bytes ≤ 140) {v : Value} {n m : Nat} {xs news : List Value} (hgd : o.guard = none) (sv xv : Operand)
    (ho : o.op = .call { callee := .builtin .append, args := #[sv, xv], argTypes := #[t, t] }) {ad : Addr} {cap : Nat} (hs : a.eval sv = v) (hx : a.eval xv = .slice (some ad) m cap) (hrow : w.ownsRow B e size v n xs) (hl : news.length = m * size)
    (hc : ∀ j u, news[j]? = some u → w.cell? (ad.add j) = some u) (h1 : ∀ u ∈ news, u.oneCell' = true) (hm : 0 < m) (hn : n + m ≤ 1000000000000) (hB : B ≤ w.heap.size)
    (h : ∀ v' w', w'.ownsRow B e size v' (n + m) (xs ++ news) → Fr (own v) w w' (own v') → (∃ a c, v' = .slice a (n + m) c) → K ⟨a.tmps.setIfInBounds d v', a.defers⟩ w') : if Region.wanted o (yielded ops a.tmps) = true then Oper.wp Tryz.prog o a w K Q else E' := by
  obtain ⟨i, z, hi, hz, hsz, hby, hzc⟩ := E.i
  have hmx : n + m ≤ maxLen := by simp only [maxLen]; omega
  have hbb : (n + m) * bytes ≤ 140737488355328 := Nat.le_trans (Nat.mul_le_mul hn hs1) (by omega)
  refine step_append_lies _ hgd sv xv t ho B e i z size bytes E.u hi hz hsz hby hzc hs0 v n xs hs hrow ad m cap news hx hl hc h1 hm hmx hbb hB w.heap.size rfl ?_
  intro g cp w' h1 h2 h3 h4
  have hh := h _ w' h1 (grow_fr h2 h3) ⟨_, _, rfl⟩
  rw [hd]
  exact hh
end Go.Proofs.YtfmbebofllgmoaaGreatDoor
namespace Go.Proofs.YtfmbebofllgmoaaGreatDoor
open Go.RowKit

/-- A list of one unit, over and over. -/
def FullU (us : List Value) (w : World) (v : Value) : Prop := ∃ a n c, v = .slice a n c ∧ n ≤ 1000000000 ∧ (n = 0 ∨ ∃ q off, a = some ⟨q, off, none⟩ ∧ ∀ i, i < n → ∀ j u, us[j]? = some u → w.cell? ⟨q, off + i * us.length + j, none⟩ = some u)
def reps (n : Nat) (us : List Value) : List Value := (List.replicate n us).flatten
theorem reps_succ (n : Nat) (us : List Value) : reps (n + 1) us = us ++ reps n us := by unfold reps; rw [List.replicate_succ, List.flatten_cons]
theorem reps_length (n : Nat) (us : List Value) : (reps n us).length = n * us.length := by
  induction n with
  | zero => simp [reps]
  | succ n ih => rw [reps_succ, List.length_append, ih, Nat.succ_mul]; omega
theorem reps_append (n k : Nat) (us : List Value) : reps n us ++ reps k us = reps (n + k) us := by
  unfold reps; rw [← List.flatten_append, List.replicate_append_replicate]
theorem reps_get (us : List Value) {j : Nat} {u : Value} (hj : us[j]? = some u) : ∀ (n i : Nat), i < n → (reps n us)[i * us.length + j]? = some u
  | 0, i, h => by omega
  | n + 1, 0, _ => by
    rw [reps_succ, Nat.zero_mul, Nat.zero_add, List.getElem?_append_left (List.getElem?_eq_some_iff.1 hj).1]
    exact hj
  | n + 1, i + 1, h => by
    rw [reps_succ, List.getElem?_append_right (by rw [Nat.succ_mul]; omega), show (i + 1) * us.length + j - us.length = i * us.length + j by rw [Nat.succ_mul]; omega]
    exact reps_get us hj n i (by omega)
section
variable {w W : World} {v : Value} {us : List Value} {K : Nat → Prop}
theorem FullU.keep (h : FullU us w v) (hl : LiesIn v K) (hk : ∀ q, K q → W.heap[q]? = w.heap[q]?) : FullU us W v := by
  obtain ⟨a, n, c, rfl, hn, hc⟩ := h
  refine ⟨a, n, c, rfl, hn, ?_⟩
  rcases Nat.eq_zero_or_pos n with h0 | h0
  · exact .inl h0
  rcases hc with h1 | ⟨q, off, rfl, hcell⟩
  · omega
  have hq := hk q (hl q off n c rfl h0)
  exact .inr ⟨q, off, rfl, fun i hi j u hj => by rw [cellOf_heap hq]; exact hcell i hi j u hj⟩
theorem FullU.row {B e n : Nat} (_hus : 0 < us.length) (h : w.ownsRow B e us.length v n (reps n us)) (hn : n ≤ 1000000000) : FullU us w v := by
  rcases Nat.eq_zero_or_pos n with h0 | h0
  · obtain ⟨a, c, hv⟩ := row_shape h
    exact ⟨a, n, c, hv, hn, .inl h0⟩
  · obtain ⟨g, c, hv, _, _, hc⟩ := row_cell h h0
    exact ⟨_, n, c, hv, hn, .inr ⟨g, 0, rfl, fun i hi j u hj => by rw [Nat.zero_add]; exact hc _ _ (reps_get us hj n i hi)⟩⟩
theorem FullU.toN {m : Int} (h : FullU [.int .i64 0, .int .i64 0, .int .i64 m, .slice none 0 0] w v) : FullN w v m := by
  obtain ⟨a, n, c, hv, hn, hc⟩ := h
  exact ⟨a, n, c, hv, hn, hc.imp id fun ⟨q, off, e, hcell⟩ => ⟨q, off, e, fun i hi => ⟨hcell i hi 0 _ rfl, hcell i hi 1 _ rfl, hcell i hi 2 _ rfl, hcell i hi 3 _ rfl⟩⟩⟩
end
/-- A list of units that was made of an own list: in its block, or in a block of its own. -/
def MadeU (us : List Value) (e : Nat) (w : World) (lv : Value) (n : Nat) (u : Value) (k : Nat) : Prop :=
  FullU us w u ∧ ((∃ g cp, lv = .slice (some ⟨g, 0, none⟩) n cp ∧ u = .slice (some ⟨g, 0, none⟩) (n + k) cp) ∨ (∀ q, own u q → ¬ own lv q ∧ ∃ cur, w.heap[q]? = some (.cells cur e (0, 0))))
section
variable {us : List Value} {e : Nat}
theorem MadeU.step {w w' : World} {B : Nat} {lv u v' : Value} {n k j : Nat} (_hus : 0 < us.length) (h : MadeU us e w lv n u k) (hk : k ≤ j) (hn : n + j ≤ 1000000000) (hr : w'.ownsRow B e us.length v' (n + j) (reps (n + j) us))
    (hd : (∃ g cp, lv = .slice (some ⟨g, 0, none⟩) n cp ∧ v' = .slice (some ⟨g, 0, none⟩) (n + j) cp ∧ n + j ≤ cp ∧ w.grownBy w' (some g)) ∨ (w.grownBy w' none ∧ ∀ q, own v' q → w.heap.size ≤ q)) : MadeU us e w' lv n u k := by
  obtain ⟨hf, hp⟩ := h
  rcases hd with ⟨g, cp, hlv, hv', hroom, hg⟩ | ⟨hg, _⟩
  · rcases hp with ⟨g2, cp2, hlv2, hu⟩ | hp
    · rw [hlv] at hlv2
      cases hlv2
      refine ⟨?_, .inl ⟨g, cp, hlv, hu⟩⟩
      subst hv'
      rcases Nat.eq_zero_or_pos (n + j) with h0 | h0
      · exact ⟨_, _, _, hu, by omega, .inl (by omega)⟩
      obtain ⟨g3, c3, hv3, _, _, hc3⟩ := row_cell hr h0
      cases hv3
      exact ⟨some ⟨g, 0, none⟩, n + k, cp, hu, by omega, .inr ⟨g, 0, rfl, fun i hi j' u' hj' => by rw [Nat.zero_add]; exact hc3 _ _ (reps_get us hj' (n + j) i (by omega))⟩⟩
    · have hk' : ∀ q, own u q → w'.heap[q]? = w.heap[q]? := fun q hq => hg.block q (by obtain ⟨cur, hcur⟩ := (hp q hq).2; exact (Array.getElem?_eq_some_iff.1 hcur).1) (fun e => (hp q hq).1 (by rw [hlv]; simp only [own, Value.ownBlock]; exact e.symm))
      exact ⟨hf.keep own_lies hk', .inr (fun q hq => ⟨(hp q hq).1, by obtain ⟨cur, hcur⟩ := (hp q hq).2; exact ⟨cur, (hk' q hq).trans hcur⟩⟩)⟩
  · have hall : ∀ q, q < w.heap.size → w'.heap[q]? = w.heap[q]? := fun q hq => hg.block q hq (by simp)
    refine ⟨?_, hp.imp id (fun hp q hq => ⟨(hp q hq).1, by obtain ⟨cur, hcur⟩ := (hp q hq).2; exact ⟨cur, (hall q (Array.getElem?_eq_some_iff.1 hcur).1).trans hcur⟩⟩)⟩
    obtain ⟨a, nn, c, hv, hnn, hc⟩ := hf
    exact ⟨a, nn, c, hv, hnn, hc.imp id fun ⟨q, off, e, hcell⟩ => ⟨q, off, e, fun i hi j' u' hj' => by rw [cellOf_heap (hall q (World.block_lt_of_cell? w _ (hcell i hi j' u' hj')))]; exact hcell i hi j' u' hj'⟩⟩
theorem MadeU.store {w : World} {lv u v : Value} {n k X j : Nat} {cX : Array Value} {t : Nat} (h : MadeU us e w lv n u k) (hX : w.heap[X]? = some (.cells cX t (0, 0))) (he : t ≠ e) (hlv : ¬ own lv X) : MadeU us e (w.setCell ⟨X, j, none⟩ v) lv n u k := by
  obtain ⟨hf, hp⟩ := h
  have hk : ∀ q, q ≠ X → (w.setCell ⟨X, j, none⟩ v).heap[q]? = w.heap[q]? := fun q hq => Below.heap_setCell _ _ _ _ hq
  rcases hp with ⟨g, cp, hl, hu⟩ | hp
  · refine ⟨hf.keep (K := fun q => q = g) (fun q off n' c hv _ => by rw [hu] at hv; cases hv; rfl) (fun q hq => hk q (fun e => hlv (by rw [hl, ← e, hq]; rfl))), .inl ⟨g, cp, hl, hu⟩⟩
  · have hne : ∀ q, own u q → q ≠ X := fun q hq e' => by
      obtain ⟨cur, hcur⟩ := (hp q hq).2
      rw [e'] at hcur
      exact he (ty_one hX hcur)
    exact ⟨hf.keep own_lies (fun q hq => hk q (hne q hq)), .inr (fun q hq => ⟨(hp q hq).1, by obtain ⟨cur, hcur⟩ := (hp q hq).2; exact ⟨cur, (hk q (hne q hq)).trans hcur⟩⟩)⟩
theorem MadeU.fr {w W : World} {lv u : Value} {n k : Nat} (h : MadeU us e w lv n u k) (hf : Fr (fun _ => False) w W (fun _ => False)) : MadeU us e W lv n u k := by
  obtain ⟨⟨a, nn, c, hv, hnn, hc⟩, hp⟩ := h
  have hall : ∀ q, q < w.heap.size → W.heap[q]? = w.heap[q]? := fun q hq => hf.same q hq (fun h => h)
  exact ⟨⟨a, nn, c, hv, hnn, hc.imp id fun ⟨q, off, e, hcell⟩ => ⟨q, off, e, fun i hi j' u' hj' => by rw [cellOf_heap (hall q (World.block_lt_of_cell? w _ (hcell i hi j' u' hj')))]; exact hcell i hi j' u' hj'⟩⟩, hp.imp id fun hp q hq => ⟨(hp q hq).1, by obtain ⟨cur, hcur⟩ := (hp q hq).2; exact ⟨cur, (hall q (Array.getElem?_eq_some_iff.1 hcur).1).trans hcur⟩⟩⟩
theorem MadeU.ty {w : World} {lv u : Value} {B n k size m : Nat} {xs : List Value} (h : MadeU us e w lv n u k) (ho : w.ownsRow B e size lv m xs) {q : Nat} (hq : own u q) : ∃ cur, w.heap[q]? = some (.cells cur e (0, 0)) := by
  rcases h.2 with ⟨g, cp, hl, hu⟩ | hp
  · exact row_d ho (by rw [hl]; rw [hu] at hq; exact hq)
  · exact (hp q hq).2
/-- One append of units to an own list, and the store of what came of it into the entry's block. -/
theorem keep_oneU {U wa : World} {B X t : Nat} {lv va : Value} {n j k : Nat} {cX : Array Value} (hus : 0 < us.length) (hte : t ≠ e) (hn : n + j ≤ 1000000000) (ho : U.ownsRow B e us.length lv n (reps n us)) (hX : U.heap[X]? = some (.cells cX t (0, 0)))
    (ra : wa.ownsRow B e us.length va (n + j) (reps (n + j) us))
    (hd : (∃ g cp, lv = .slice (some ⟨g, 0, none⟩) n cp ∧ va = .slice (some ⟨g, 0, none⟩) (n + j) cp ∧ n + j ≤ cp ∧ U.grownBy wa (some g)) ∨ (U.grownBy wa none ∧ ∀ q, own va q → U.heap.size ≤ q)) :
    (wa.setCell ⟨X, k, none⟩ va).ownsRow B e us.length lv n (reps n us) ∧ (wa.setCell ⟨X, k, none⟩ va).heap[X]? = some (.cells (cX.setIfInBounds k va) t (0, 0)) ∧ MadeU us e (wa.setCell ⟨X, k, none⟩ va) lv n va j ∧ (∀ u i, i ≤ j → MadeU us e U lv n u i → MadeU us e (wa.setCell ⟨X, k, none⟩ va) lv n u i) ∧
      Fr (fun q => own lv q ∨ q = X) U (wa.setCell ⟨X, k, none⟩ va) (fun q => own lv q ∨ q = X) ∧ (∀ q, own va q → own lv q ∨ U.heap.size ≤ q) := by
  have hXl : ¬ own lv X := own_ty ho hX hte
  have old : ∀ q, q < U.heap.size → ¬ own lv q → wa.heap[q]? = U.heap[q]? := fun q hq hn => by
    rcases hd with ⟨g, cp, hl, _, _, hg⟩ | ⟨hg, _⟩
    · exact hg.block q hq (fun e => hn (by rw [hl]; simp only [own, Value.ownBlock]; exact e.symm))
    · exact hg.block q hq (by simp)
  have hXlt := (Array.getElem?_eq_some_iff.1 hX).1
  have hXa : wa.heap[X]? = some (.cells cX t (0, 0)) := (old X hXlt hXl).trans hX
  have hsz : U.heap.size ≤ wa.heap.size := by rcases hd with ⟨_, _, _, _, _, hg⟩ | ⟨hg, _⟩ <;> exact hg.size
  have hol : wa.ownsRow B e us.length lv n (reps n us) := by
    rcases hd with ⟨g, cp, hl, hv, hr, hg⟩ | ⟨hg, _⟩
    · subst hl hv
      rw [← reps_append] at ra
      exact row_prefix ra (reps_length n us)
    · exact ownsRow_of_block ho (fun q hq => hg.block q (World.ownsRow.lt ho q hq).2 (by simp))
  have hmade : MadeU us e wa lv n va j := by
    refine ⟨FullU.row hus ra hn, ?_⟩
    rcases hd with ⟨g, cp, hl, hv, _, _⟩ | ⟨_, hf⟩
    · exact .inl ⟨g, cp, hl, hv⟩
    · exact .inr (fun q hq => ⟨fun h => by have h1 := hf q hq; have h2 := (World.ownsRow.lt ho q h).2; omega, row_d ra hq⟩)
  refine ⟨ownsRow_of_block hol (fun q hq => Below.heap_setCell _ _ _ _ (fun e => hXl (by have e' : q = X := e; rw [← e']; exact hq))), setCell_row wa X k cX t va hXa, hmade.store hXa hte hXl, fun u i hi hu => (hu.step hus hi hn ra hd).store hXa hte hXl, ?_⟩
  have h3 : wa.os = U.os ∧ wa.tape = U.tape ∧ wa.output = U.output := by rcases hd with ⟨_, _, _, _, _, hg⟩ | ⟨hg, _⟩ <;> exact ⟨hg.os, hg.tape, hg.output⟩
  refine ⟨⟨h3.1, h3.2.1, h3.2.2, by simpa [World.setCell] using hsz, fun q hq hn => (Below.heap_setCell _ _ _ _ (fun e => hn (.inr e))).trans (old q hq (fun h => hn (.inl h))), fun _ _ h => h⟩, fun q hq => ?_⟩
  rcases hd with ⟨g, cp, hl, hv, _, _⟩ | ⟨_, hf⟩
  · left; rw [hl]; rw [hv] at hq; exact hq
  · exact .inr (hf q hq)
end
end Go.Proofs.YtfmbebofllgmoaaGreatDoor
namespace Go.Proofs.YtfmbebofllgmoaaGreatDoor
open Go.RowKit
attribute [local go_sem ↓] Go.wp_at_zero Go.wp_at_succ

/-- A row of one's own, one cell stored. -/
theorem ownI_set {w : World} {B : Nat} {a : Option Addr} {c : Nat} {l : List Int} (h : OwnI w B (.slice a l.length c) l) (j : Nat) (hj : j < l.length) (z : Int) : ∃ g, a = some ⟨g, 0, none⟩ ∧ g < w.heap.size ∧ w.cell? ⟨g, j, none⟩ = some (.int .i64 (l.getD j 0)) ∧ w.frozen? ⟨g, j, none⟩ = false ∧ OwnI (w.setCell ⟨g, j, none⟩ (.int .i64 z)) B (.slice a l.length c) (l.set j z) := by
  obtain ⟨h0, h1⟩ := h
  rcases h1 with ⟨hv, h2⟩ | ⟨g, cap, cur, hv, hB, hg, hc1, hc2, hc3, hc4⟩
  · omega
  · cases hv
    have hcell := cell_of_row w g j cur 3 (0, 0) hg
    have hlt : j < cur.size := by rw [hc3]; omega
    have hcv : cur[j]? = some (.int .i64 (l.getD j 0)) := by
      have h5 := congrArg (·[j]?) hc4
      simp only [Nat.mul_one] at h5
      rw [List.getElem?_take_of_lt (by omega), List.getElem?_map, List.getElem?_eq_getElem hj] at h5
      rw [List.getD_eq_getElem?_getD, List.getElem?_eq_getElem hj]
      simpa using h5
    refine ⟨g, rfl, (Array.getElem?_eq_some_iff.1 hg).1, hcell.trans hcv, frozen_rowE hg j, ?_⟩
    refine ⟨by simp, .inr ⟨g, c, cur.setIfInBounds j (.int .i64 z), by rw [List.length_set], hB, setCell_row w g j cur 3 _ hg, by rw [List.length_set]; exact hc1, hc2, by simpa using hc3, ?_⟩⟩
    rw [List.length_set, Nat.mul_one, Array.toList_setIfInBounds, List.take_set, List.map_set]
    rw [Nat.mul_one] at hc4
    rw [hc4]
theorem both_x {U wa : World} {B X n j : Nat} {lv va : Value} {rep : List Int} {cX : Array Value} (ho : OwnI U B lv rep) (hX : U.heap[X]? = some (.cells cX 105 (0, 0))) (hd : (∃ g cp, lv = .slice (some ⟨g, 0, none⟩) n cp ∧ va = .slice (some ⟨g, 0, none⟩) (n + j) cp ∧ n + j ≤ cp ∧ U.grownBy wa (some g)) ∨ (U.grownBy wa none ∧ ∀ q, own va q → U.heap.size ≤ q)) : wa.heap[X]? = some (.cells cX 105 (0, 0)) := by
  have hXlt := (Array.getElem?_eq_some_iff.1 hX).1
  rcases hd with ⟨g, cp, hl, _, _, hg⟩ | ⟨hg, _⟩
  · refine (hg.block X hXlt (fun e => ?_)).trans hX
    have hq : own lv X := by rw [hl]; simp only [own, Value.ownBlock]; exact e.symm
    obtain ⟨c, hc⟩ := row_d ho hq
    rw [hX] at hc
    injection hc with hc
    injection hc with _ hc
    exact absurd hc (by decide)
  · exact (hg.block X hXlt (by simp)).trans hX
theorem MadeI.fr {w W : World} {lv u : Value} {n k : Nat} {m : Int} (h : MadeI w lv n u k m) (hf : Fr (fun _ => False) w W (fun _ => False)) : MadeI W lv n u k m :=
  ⟨h.1.fr hf, h.2.imp id fun hp q hq => ⟨(hp q hq).1, by obtain ⟨cur, hcur⟩ := (hp q hq).2; exact ⟨cur, (hf.same q (Array.getElem?_eq_some_iff.1 hcur).1 (fun h => h)).trans hcur⟩⟩⟩
def marks (l : List Int) (k : Nat) (m : Int) : List Int := List.replicate k m ++ l.drop k
theorem marks_set (l : List Int) (k : Nat) (m : Int) (h : k < l.length) : (marks l k m).set k m = marks l (k + 1) m := by
  unfold marks
  rw [List.set_append_right _ _ (by simp), List.length_replicate, Nat.sub_self, List.drop_eq_getElem_cons h, List.set_cons_zero, List.replicate_succ', List.append_assoc]
  rfl
theorem marks_len (l : List Int) (k : Nat) (m : Int) (h : k ≤ l.length) : (marks l k m).length = l.length := by
  unfold marks; rw [List.length_append, List.length_replicate, List.length_drop]; omega

theorem MadeI.ty {w : World} {lv u : Value} {B n k : Nat} {m : Int} {l : List Int} (h : MadeI w lv n u k m) (ho : OwnI w B lv l) {q : Nat} (hq : own u q) : ∃ cur, w.heap[q]? = some (.cells cur 3 (0, 0)) := by
  rcases h.2 with ⟨g, cp, hl, hu⟩ | hp
  · exact row_d ho (by rw [hl]; rw [hu] at hq; exact hq)
  · exact (hp q hq).2
theorem elem105 : Elem 61 105 5 104 := elem_of _ _ _ _ (.agg #[.slice none 0 0, .slice none 0 0, .slice none 0 0, .slice none 0 0, .int .i64 0]) Tryz.underlying61 (by kernel_rfl) rfl
/-- What comes of keepInts. -/
def KeptI (w w' : World) (B bb : Nat) (n : Int) (vI vE vN : Value) (LI LE LN : List Ent) (K : Nat → Prop) (lv : Value) : Prop :=
  ∃ vI' e K', BookK w' B bb n vI' vE vN (LI ++ [e]) LE LN K' ∧ (∀ q, K' q → K q ∨ own lv q ∨ w.heap.size ≤ q) ∧ (∀ q, own vI' q → own vI q ∨ w.heap.size ≤ q) ∧ Fr (fun q => q = bb ∨ own vI q ∨ own lv q ∨ w.heap.size ≤ q) w w' (fun q => q = bb ∨ own vI q ∨ own lv q ∨ w.heap.size ≤ q)
set_option maxHeartbeats 4000000 in
set_option maxRecDepth 20000 in
theorem keepInts_any {w : World} {B bb : Nat} {n : Int} {vI vE vN : Value} {LI LE LN : List Ent} {K : Nat → Prop} (h : BookK w B bb n vI vE vN LI LE LN K) (hBw : B ≤ w.heap.size) {lv : Value} {l : List Int} (ho : OwnI w B lv l) (hk : ∀ q, own lv q → ¬ K q) (hl : l.length ≤ 100000) (hL : LI.length ≤ 900000000000) :
    Calls Tryz.prog 79 #[.pointer (some ⟨bb, 0, none⟩), lv] w fun e w' => e = .returned (.tuple #[]) ∧ KeptI w w' B bb (wrap64 (n + 1)) vI vE vN LI LE LN K lv := by
  obtain ⟨a, c, rfl⟩ := ownI_slice ho
  obtain ⟨aI, cI, rfl⟩ := row_shape h.bk.rI
  have hnb : ¬ own (.slice a l.length c) bb := fun hq => by
    obtain ⟨cur, hcur⟩ := row_d ho hq
    rw [h.bk.blk] at hcur
    cases hcur
  have y0 := setCell_row w bb 0 _ 65 (.int .i64 (wrap64 (n + 1))) h.bk.blk
  have cb := fun j => cell_of_row w _ j _ 65 (0, 0) h.bk.blk
  have zb := fun j => frozen_rowE h.bk.blk j
  have HB := hide h
  have HO := hide ho
  have HK := hide hk
  clear h ho hk
  go_enter Tryz.func79, Tryz.ntmps79
  go_wp2
  have o1 : OwnI (w.setCell ⟨bb, 0, none⟩ (.int .i64 (wrap64 (n + 1)))) B (.slice a l.length c) (marks l 0 (wrap64 (1000 + wrap64 (n + 1)))) := by
    have e : marks l 0 (wrap64 (1000 + wrap64 (n + 1))) = l := by unfold marks; simp
    rw [e]
    exact ownsRow_of_block (unhide HO) (fun q hq => Below.heap_setCell _ _ _ _ (fun e => hnb (by have e' : q = bb := e; rw [← e']; exact hq)))
  have hf1 : Fr (fun q => q = bb) w (w.setCell ⟨bb, 0, none⟩ (.int .i64 (wrap64 (n + 1)))) (fun q => q = bb) := (Fr.refl _ _).setCell _ _ (.inl rfl)
  obtain ⟨m, hm⟩ : ∃ m, wrap64 (1000 + wrap64 (n + 1)) = m := ⟨_, rfl⟩
  rw [hm] at o1 ⊢
  generalize hw1 : w.setCell ⟨bb, 0, none⟩ (.int .i64 (wrap64 (n + 1))) = w1 at *
  have O1 := hide o1
  have Y0 := hide y0
  have HF1 := hide hf1
  clear o1 y0 hf1 hw1 hm cb zb
  go_loopw [5] (fun i wr => ∃ j : Nat, j ≤ l.length ∧ i = .int .i64 j ∧ OwnI wr B (.slice a l.length c) (marks l j m) ∧ Fr (own (.slice a l.length c)) w1 wr (own (.slice a l.length c))) (fun i _ => l.length - (intOf i).toNat)
  case atStart => exact ⟨0, Nat.zero_le _, rfl, unhide O1, Fr.refl _ _⟩
  case round =>
    obtain ⟨j, hj, rfl, hoj, hfj⟩ := hrel
    have hml := marks_len l j m hj
    by_cases hlt : j < l.length
    · rw [← hml] at hoj
      obtain ⟨g, hg, hgl, hc, hz, hn⟩ := ownI_set hoj j (by omega) m
      subst hg
      rw [hml, marks_set l j m hlt] at hn
      have HN := hide hn
      have HFJ := hide hfj
      have hk0 : (0 : Int) ≤ (j : Int) := by omega
      have hk1 : (j : Int) < (l.length : Int) := by omega
      clear hoj hn hfj hml
      go_wp2
      go_roundw
      case rel => exact ⟨j + 1, by omega, by go_num, unhide HN, (unhide HFJ).setCell _ _ (.inl rfl)⟩
      case measure => simp [intOf]; omega
    · have hjl : j = l.length := by omega
      subst hjl
      have hk1 : ¬ (l.length : Int) < (l.length : Int) := by omega
      have hrepE : marks l l.length m = List.replicate l.length m := by unfold marks; simp
      rw [hrepE] at hoj
      clear hml hrepE
      have C0n := heap_alloc_new wr (.cells #[.slice a l.length c, .slice none 0 0, .slice none 0 0, .slice none 0 0, .int .i64 m] 105)
      have v0o : OwnI ((wr.alloc (.cells #[.slice a l.length c, .slice none 0 0, .slice none 0 0, .slice none 0 0, .int .i64 m] 105)).alloc (.cells #[.int .i64 m] 3)) B (.slice a l.length c) (List.replicate l.length m) := World.ownsRow.alloc (World.ownsRow.alloc hoj _) _
      have v0x : ((wr.alloc (.cells #[.slice a l.length c, .slice none 0 0, .slice none 0 0, .slice none 0 0, .int .i64 m] 105)).alloc (.cells #[.int .i64 m] 3)).heap[wr.heap.size]? = some (.cells #[.slice a l.length c, .slice none 0 0, .slice none 0 0, .slice none 0 0, .int .i64 m] 105) := (Below.heap_alloc _ _ _ (by simp)).trans C0n
      have v0n : ((wr.alloc (.cells #[.slice a l.length c, .slice none 0 0, .slice none 0 0, .slice none 0 0, .int .i64 m] 105)).alloc (.cells #[.int .i64 m] 3)).heap[wr.heap.size + 1]? = some (.cells #[.int .i64 m] 3) := by
        have h := heap_alloc_new (wr.alloc (.cells #[.slice a l.length c, .slice none 0 0, .slice none 0 0, .slice none 0 0, .int .i64 m] 105)) (.cells #[.int .i64 m] 3)
        rwa [show (wr.alloc (.cells #[.slice a l.length c, .slice none 0 0, .slice none 0 0, .slice none 0 0, .int .i64 m] 105)).heap.size = wr.heap.size + 1 by simp] at h
      have hB0 : B ≤ ((wr.alloc (.cells #[.slice a l.length c, .slice none 0 0, .slice none 0 0, .slice none 0 0, .int .i64 m] 105)).alloc (.cells #[.int .i64 m] 3)).heap.size := by
        have h1 := (unhide HF1).size
        have h2 := hfj.size
        simp; omega
      have V0O := hide v0o
      have V0X := hide v0x
      have V0N := hide v0n
      have HFJ := hide hfj
      clear hoj hfj C0n v0o v0x v0n
      go_wp2_with (at_builtin; first | (refine wpList_both elemI (by omega) (by omega) (B := B) (n := l.length) (m := 1) (xs := (List.replicate l.length m).map fun z => Value.int .i64 z) (news := (List.replicate 1 m).map fun z => Value.int .i64 z) rfl (.tmp 32) (.tmp 34) rfl (ad := ⟨wr.heap.size + 1, 0, none⟩) (cap := 1) rfl rfl (by have h := unhide V0O; unfold OwnI at h; rw [List.length_replicate] at h; exact h) rfl (World.news_of_block (unhide V0N)) (by simp [Value.oneCell']) (by omega) (by omega) hB0 ?_; intro va wa sha ra da; obtain ⟨aa, ca, rfl⟩ := sha; rw [← List.map_append] at ra; have xa := both_x (unhide V0O) (unhide V0X) da; have kca := fun i => cell_of_row wa _ i _ 105 (0, 0) xa; have kza := fun i => frozen_rowE xa i; have K1 := hide (keep_one (k := 1) (by simp) (fun z hz => List.eq_of_mem_replicate hz) (by omega) (unhide V0O) (unhide V0X) ra da); clear ra da xa V0N; have V1O := hide (show OwnI ((wa.setCell ⟨wr.heap.size, 1, none⟩ (.slice aa (l.length + 1) ca)).alloc (.cells #[.int .i64 m, .int .i64 m] 3)) B (.slice a l.length c) (List.replicate l.length m) from World.ownsRow.alloc (unhide K1).1 _); have V1X := hide (show ((wa.setCell ⟨wr.heap.size, 1, none⟩ (.slice aa (l.length + 1) ca)).alloc (.cells #[.int .i64 m, .int .i64 m] 3)).heap[wr.heap.size]? = some (.cells #[.slice a l.length c, .slice aa (l.length + 1) ca, .slice none 0 0, .slice none 0 0, .int .i64 m] 105) from (Below.heap_alloc _ _ _ (Array.getElem?_eq_some_iff.1 (unhide K1).2.1).1).trans (unhide K1).2.1); have V1N := hide (show ((wa.setCell ⟨wr.heap.size, 1, none⟩ (.slice aa (l.length + 1) ca)).alloc (.cells #[.int .i64 m, .int .i64 m] 3)).heap[wa.heap.size]? = some (.cells #[.int .i64 m, .int .i64 m] 3) from (by have h := heap_alloc_new (wa.setCell ⟨wr.heap.size, 1, none⟩ (.slice aa (l.length + 1) ca)) (.cells #[.int .i64 m, .int .i64 m] 3); rwa [show (wa.setCell ⟨wr.heap.size, 1, none⟩ (.slice aa (l.length + 1) ca)).heap.size = wa.heap.size by simp [World.setCell]] at h)); have hB1 : B ≤ ((wa.setCell ⟨wr.heap.size, 1, none⟩ (.slice aa (l.length + 1) ca)).alloc (.cells #[.int .i64 m, .int .i64 m] 3)).heap.size := (by have h := (unhide K1).2.2.2.2.1.size; have h0 := hB0; simp at h h0 ⊢; omega)) | (refine wpList_both elemI (by omega) (by omega) (B := B) (n := l.length) (m := 2) (xs := (List.replicate l.length m).map fun z => Value.int .i64 z) (news := (List.replicate 2 m).map fun z => Value.int .i64 z) rfl (.tmp 37) (.tmp 40) rfl (ad := ⟨wa.heap.size, 0, none⟩) (cap := 2) rfl rfl (by have h := unhide V1O; unfold OwnI at h; rw [List.length_replicate] at h; exact h) rfl (World.news_of_block (unhide V1N)) (by simp [Value.oneCell']) (by omega) (by omega) hB1 ?_; intro va wb sha ra da; obtain ⟨ab, cb, rfl⟩ := sha; rw [← List.map_append] at ra; have xa := both_x (unhide V1O) (unhide V1X) da; have kcb := fun i => cell_of_row wb _ i _ 105 (0, 0) xa; have kzb := fun i => frozen_rowE xa i; have K2 := hide (keep_one (k := 2) (by simp) (fun z hz => List.eq_of_mem_replicate hz) (by omega) (unhide V1O) (unhide V1X) ra da); clear ra da xa V1N; have V2O := hide (show OwnI ((wb.setCell ⟨wr.heap.size, 2, none⟩ (.slice ab (l.length + 2) cb)).alloc (.cells #[.int .i64 m, .int .i64 m, .int .i64 m] 3)) B (.slice a l.length c) (List.replicate l.length m) from World.ownsRow.alloc (unhide K2).1 _); have V2X := hide (show ((wb.setCell ⟨wr.heap.size, 2, none⟩ (.slice ab (l.length + 2) cb)).alloc (.cells #[.int .i64 m, .int .i64 m, .int .i64 m] 3)).heap[wr.heap.size]? = some (.cells #[.slice a l.length c, .slice aa (l.length + 1) ca, .slice ab (l.length + 2) cb, .slice none 0 0, .int .i64 m] 105) from (Below.heap_alloc _ _ _ (Array.getElem?_eq_some_iff.1 (unhide K2).2.1).1).trans (unhide K2).2.1); have V2N := hide (show ((wb.setCell ⟨wr.heap.size, 2, none⟩ (.slice ab (l.length + 2) cb)).alloc (.cells #[.int .i64 m, .int .i64 m, .int .i64 m] 3)).heap[wb.heap.size]? = some (.cells #[.int .i64 m, .int .i64 m, .int .i64 m] 3) from (by have h := heap_alloc_new (wb.setCell ⟨wr.heap.size, 2, none⟩ (.slice ab (l.length + 2) cb)) (.cells #[.int .i64 m, .int .i64 m, .int .i64 m] 3); rwa [show (wb.setCell ⟨wr.heap.size, 2, none⟩ (.slice ab (l.length + 2) cb)).heap.size = wb.heap.size by simp [World.setCell]] at h)); have hB2 : B ≤ ((wb.setCell ⟨wr.heap.size, 2, none⟩ (.slice ab (l.length + 2) cb)).alloc (.cells #[.int .i64 m, .int .i64 m, .int .i64 m] 3)).heap.size := (by have h := (unhide K2).2.2.2.2.1.size; have h0 := hB1; simp at h h0 ⊢; omega)) | (refine wpList_both elemI (by omega) (by omega) (B := B) (n := l.length) (m := 3) (xs := (List.replicate l.length m).map fun z => Value.int .i64 z) (news := (List.replicate 3 m).map fun z => Value.int .i64 z) rfl (.tmp 43) (.tmp 47) rfl (ad := ⟨wb.heap.size, 0, none⟩) (cap := 3) rfl rfl (by have h := unhide V2O; unfold OwnI at h; rw [List.length_replicate] at h; exact h) rfl (World.news_of_block (unhide V2N)) (by simp [Value.oneCell']) (by omega) (by omega) hB2 ?_; intro va wc sha ra da; obtain ⟨ac, cc, rfl⟩ := sha; rw [← List.map_append] at ra; have xa := both_x (unhide V2O) (unhide V2X) da; have kcc := fun i => cell_of_row wc _ i _ 105 (0, 0) xa; have kzc := fun i => frozen_rowE xa i; have K3 := hide (keep_one (k := 3) (by simp) (fun z hz => List.eq_of_mem_replicate hz) (by omega) (unhide V2O) (unhide V2X) ra da); clear ra da xa V2N; skip))
      have hXB : w.heap.size ≤ wr.heap.size := Nat.le_trans (unhide HF1).size (unhide HFJ).size
      have f1 : Fr (fun q => own (.slice a l.length c) q ∨ q = wr.heap.size) w1 (wc.setCell ⟨wr.heap.size, 3, none⟩ (.slice ac (l.length + 3) cc)) (fun q => own (.slice a l.length c) q ∨ q = wr.heap.size) :=
        ((unhide HFJ).widen (fun _ h => .inl h)).trans ((((Fr.refl _ wr).alloc _).alloc _).trans ((unhide K1).2.2.2.2.1.trans (((Fr.refl _ _).alloc _).trans ((unhide K2).2.2.2.2.1.trans (((Fr.refl _ _).alloc _).trans (unhide K3).2.2.2.2.1)))))
      have hbl : bb < w1.heap.size := (Array.getElem?_eq_some_iff.1 (unhide Y0)).1
      have hbd : (wc.setCell ⟨wr.heap.size, 3, none⟩ (.slice ac (l.length + 3) cc)).heap[bb]? = some (.cells #[.int .i64 (wrap64 (n + 1)), .slice aI LI.length cI, vE, vN] 65) := (f1.same bb hbl (fun h => by
        rcases h with h | h
        · exact hnb h
        · have := (unhide HFJ).size; omega)).trans (unhide Y0)
      have fT : Fr (fun q => q = bb ∨ own (.slice a l.length c) q ∨ w.heap.size ≤ q) w (wc.setCell ⟨wr.heap.size, 3, none⟩ (.slice ac (l.length + 3) cc)) (fun q => q = bb ∨ own (.slice a l.length c) q ∨ w.heap.size ≤ q) :=
        ((unhide HF1).widen (fun _ h => .inl h)).trans (f1.widen (fun q h => by
          rcases h with h | h
          · exact .inr (.inl h)
          · exact .inr (.inr (by omega))))
      have bk := (unhide HB).mid fT (fun q hq h => by
        rcases h with h | h | h
        · exact .inl h
        · obtain ⟨cur, hcur⟩ := row_d (unhide HO) h
          exact .inr ⟨unhide HK q h, own_ty (unhide HB).bk.rI hcur (by decide), own_ty (unhide HB).bk.rE hcur (by decide), own_ty (unhide HB).bk.rN hcur (by decide)⟩
        · omega) hbd
      have m1 := (unhide K3).2.2.2.1 _ 1 (by omega) (((unhide K2).2.2.2.1 _ 1 (by omega) ((unhide K1).2.2.1.fr ((Fr.refl _ _).alloc _))).fr ((Fr.refl _ _).alloc _))
      have m2 := (unhide K3).2.2.2.1 _ 2 (by omega) ((unhide K2).2.2.1.fr ((Fr.refl _ _).alloc _))
      have m3 := (unhide K3).2.2.1
      have od := (unhide K3).1
      have xd := (unhide K3).2.1
      have g1 := (unhide K1).2.2.2.2.2
      have g2 := (unhide K2).2.2.2.2.2
      have g3 := (unhide K3).2.2.2.2.2
      have s1 : w.heap.size ≤ ((wr.alloc (.cells #[.slice a l.length c, .slice none 0 0, .slice none 0 0, .slice none 0 0, .int .i64 m] 105)).alloc (.cells #[.int .i64 m] 3)).heap.size := by simp; omega
      have s2 := Nat.le_trans (Nat.le_trans s1 (unhide K1).2.2.2.2.1.size) (Fr.size ((Fr.refl (fun _ => False) _).alloc (.cells #[.int .i64 m, .int .i64 m] 3)))
      have s3 := Nat.le_trans (Nat.le_trans s2 (unhide K2).2.2.2.2.1.size) (Fr.size ((Fr.refl (fun _ => False) _).alloc (.cells #[.int .i64 m, .int .i64 m, .int .i64 m] 3)))
      have fresh : ∀ q, (own (.slice a l.length c) q ∨ own (.slice aa (l.length + 1) ca) q ∨ own (.slice ab (l.length + 2) cb) q ∨ own (.slice ac (l.length + 3) cc) q) → own (.slice a l.length c) q ∨ w.heap.size ≤ q := fun q hq => by
        rcases hq with h | h | h | h
        · exact .inl h
        · exact (g1 q h).imp id (fun h => Nat.le_trans s1 h)
        · exact (g2 q h).imp id (fun h => Nat.le_trans s2 h)
        · exact (g3 q h).imp id (fun h => Nat.le_trans s3 h)
      have hRI := (unhide HB).bk.rI
      clear g1 g2 g3 s1 s2 s3 f1 hbd hbl K1 K2 K3 V0O V0X V1O V1X V2O V2X HB HO HK HF1 HFJ Y0 O1 hB0 hB1 hB2 kca kza kcb kzb kcc kzc
      have hwd : B ≤ (wc.setCell ⟨wr.heap.size, 3, none⟩ (.slice ac (l.length + 3) cc)).heap.size := Nat.le_trans hBw fT.size
      generalize wc.setCell ⟨wr.heap.size, 3, none⟩ (.slice ac (l.length + 3) cc) = wd at *
      have ty : ∀ q, (own (.slice a l.length c) q ∨ own (.slice aa (l.length + 1) ca) q ∨ own (.slice ab (l.length + 2) cb) q ∨ own (.slice ac (l.length + 3) cc) q) → ∃ cur, wd.heap[q]? = some (.cells cur 3 (0, 0)) := fun q hq => by
        rcases hq with h | h | h | h
        · exact row_d od h
        · exact m1.ty od h
        · exact m2.ty od h
        · exact m3.ty od h
      have full : FullI wd (.slice a l.length c) m ∧ FullI wd (.slice aa (l.length + 1) ca) m ∧ FullI wd (.slice ab (l.length + 2) cb) m ∧ FullI wd (.slice ac (l.length + 3) cc) m := ⟨od.full (by simp; omega) (fun z hz => List.eq_of_mem_replicate hz), m1.1, m2.1, m3.1⟩
      have cbb := fun j => cell_of_row wd bb j _ 65 (0, 0) bk.bk.blk
      have hXI : ¬ own (.slice aI LI.length cI) wr.heap.size := fun hq => by have := (World.ownsRow.lt hRI _ hq).2; omega
      have FT := hide fT
      have BK := hide bk
      have TY := hide ty
      have FULL := hide full
      have FRESH := hide fresh
      have XD := hide xd
      clear fT bk ty full fresh m1 m2 m3 od
      have hE5 : ∀ o, (wd.alloc o).drew.heap[wr.heap.size]? = some (.cells #[.slice a l.length c, .slice aa (l.length + 1) ca, .slice ab (l.length + 2) cb, .slice ac (l.length + 3) cc, .int .i64 m] 105 (0, 0)) := fun o => (Below.heap_alloc wd o _ (Array.getElem?_eq_some_iff.1 (unhide XD)).1).trans (unhide XD)
      have cbq : ∀ o, (wd.alloc o).drew.cell? ⟨bb, 1, none⟩ = some (.slice aI LI.length cI) := fun o => by
        have h : (wd.alloc o).drew.heap[bb]? = _ := (Below.heap_alloc wd o _ (Array.getElem?_eq_some_iff.1 (unhide BK).bk.blk).1).trans (unhide BK).bk.blk
        exact cell_of_row _ _ 1 _ 65 (0, 0) h
      clear xd
      have hXb : wr.heap.size ≠ bb := fun e => by have h := unhide XD; rw [e] at h; exact absurd (ty_one h (unhide BK).bk.blk) (by decide)
      have hX5 : ¬ own (.slice aI LI.length cI) wr.heap.size := fun hq => by
        have h := hXI; exact h hq
      have fin : ∀ v' w3, w3.ownsRow B 105 5 v' (LI.length + 1) (flat5 LI ++ [.slice a l.length c, .slice aa (l.length + 1) ca, .slice ab (l.length + 2) cb, .slice ac (l.length + 3) cc, .int .i64 m]) → Fr (own (.slice aI LI.length cI)) (wd.alloc (.cells #[.slice a l.length c, .slice aa (l.length + 1) ca, .slice ab (l.length + 2) cb, .slice ac (l.length + 3) cc, .int .i64 m] 105)).drew w3 (own v') → KeptI w (w3.setCell ⟨bb, 1, none⟩ v') B bb (wrap64 (n + 1)) (.slice aI LI.length cI) vE vN LI LE LN K (.slice a l.length c) := fun v' w3 o3 f3 => by
        have fa : Fr (fun _ => False) wd (wd.alloc (.cells #[.slice a l.length c, .slice aa (l.length + 1) ca, .slice ab (l.length + 2) cb, .slice ac (l.length + 3) cc, .int .i64 m] 105)).drew (fun _ => False) := ((Fr.refl _ _).alloc _).drew
        have hall : ∀ q, q < wd.heap.size → (wd.alloc (.cells #[.slice a l.length c, .slice aa (l.length + 1) ca, .slice ab (l.length + 2) cb, .slice ac (l.length + 3) cc, .int .i64 m] 105)).drew.heap[q]? = wd.heap[q]? := fun q hq => fa.same q hq (fun h => h)
        have full := unhide FULL
        have hb := ((unhide BK).fr fa).addI (e := ⟨.slice a l.length c, .slice aa (l.length + 1) ca, .slice ab (l.length + 2) cb, .slice ac (l.length + 3) cc, m⟩) (K2 := fun q => own (.slice a l.length c) q ∨ own (.slice aa (l.length + 1) ca) q ∨ own (.slice ab (l.length + 2) cb) q ∨ own (.slice ac (l.length + 3) cc) q) ⟨full.1.fr fa, full.2.1.fr fa, full.2.2.1.fr fa, full.2.2.2.fr fa⟩ ⟨own_lies.mono (fun _ h => .inl h), own_lies.mono (fun _ h => .inr (.inl h)), own_lies.mono (fun _ h => .inr (.inr (.inl h))), own_lies.mono (fun _ h => .inr (.inr (.inr h)))⟩ (fun q hq => by
          obtain ⟨cur, hcur⟩ := unhide TY q hq
          exact ⟨cur, (hall q (Array.getElem?_eq_some_iff.1 hcur).1).trans hcur⟩) o3 f3
        refine ⟨v', _, _, hb, fun q hq => ?_, fun q hq => ?_, ?_⟩
        · rcases hq with h | h
          · exact .inl h
          · exact .inr (unhide FRESH q h)
        · by_cases hlt : q < w.heap.size
          · exact .inl (f3.old q (Nat.lt_of_lt_of_le hlt (Nat.le_trans (unhide FT).size fa.size)) hq)
          · exact .inr (by omega)
        · refine Fr.setCell ?_ _ _ (.inl (.inl rfl))
          refine ((unhide FT).widen (fun q h => ?_)).trans ((fa.widen (fun q h => h.elim)).trans (f3.widen (fun q h => .inr (.inl h))))
          rcases h with h | h | h
          · exact .inl h
          · exact .inr (.inr (.inl h))
          · exact .inr (.inr (.inr h))
      refine wp_region_held_drew (S := fun w' => w'.heap[wr.heap.size]? = some (.cells #[.slice a l.length c, .slice aa (l.length + 1) ca, .slice ab (l.length + 2) cb, .slice ac (l.length + 3) cc, .int .i64 m] 105 (0, 0))) (by kernel_rfl) ?_ (fun hHeld => ?_)
      · exact unhide XD
      refine wpAnyH_take (i := 0) (oi := { dst := some 50, op := Op.move (Operand.tmp 0), type := 60, pos := "law.go:101", after := #[], guard := none }) (v := ?_) rfl (by kernel_rfl) (by kernel_rfl) (by kernel_rfl) (fun _ _ _ h => h) (Or.inl ⟨by rfl, ?_⟩) (by assumption) ?_
      rotate_left
      · intro w hSw; (try dsimp only at hSw); go_simp; try with_reducible rfl
      simp only [Act.put, List.setIfInBounds_toArray, List.set_cons_zero, List.set_cons_succ]
      refine wpAnyH_take (i := 1) (oi := { dst := some 51, op := Op.move (Operand.tmp 0), type := 60, pos := "law.go:101", after := #[], guard := none }) (v := ?_) rfl (by kernel_rfl) (by kernel_rfl) (by kernel_rfl) (fun _ _ _ h => h) (Or.inl ⟨by rfl, ?_⟩) (by assumption) ?_
      rotate_left
      · intro w hSw; (try dsimp only at hSw); go_simp; try with_reducible rfl
      simp only [Act.put, List.setIfInBounds_toArray, List.set_cons_zero, List.set_cons_succ]
      refine wpAnyH_take (i := 2) (oi := { dst := some 52, op := Op.nilCheck (Operand.tmp 51), type := 0, pos := "law.go:101", after := #[{ on := 1, ground := Ground.data }], guard := none }) (v := ?_) rfl (by kernel_rfl) (by kernel_rfl) (by kernel_rfl) (fun _ _ _ h => h) (Or.inl ⟨by rfl, ?_⟩) (by assumption) ?_
      rotate_left
      · intro w hSw; (try dsimp only at hSw); go_simp; try with_reducible rfl
      simp only [Act.put, List.setIfInBounds_toArray, List.set_cons_zero, List.set_cons_succ]
      refine wpAnyH_take (i := 3) (oi := { dst := some 53, op := Op.fieldAddr 65 (Operand.tmp 52) 1, type := 0, pos := "law.go:101", after := #[{ on := 2, ground := Ground.data }], guard := none }) (v := ?_) rfl (by kernel_rfl) (by kernel_rfl) (by kernel_rfl) (fun _ _ _ h => h) (Or.inl ⟨by rfl, ?_⟩) (by assumption) ?_
      rotate_left
      · intro w hSw; (try dsimp only at hSw); go_simp; try with_reducible rfl
      simp only [Act.put, List.setIfInBounds_toArray, List.set_cons_zero, List.set_cons_succ]
      refine wpAnyH_take (i := 5) (oi := { dst := some 55, op := Op.load 105 (Operand.tmp 6), type := 105, pos := "law.go:101", after := #[], guard := none }) (v := ?_) rfl (by kernel_rfl) (by kernel_rfl) (by kernel_rfl) (fun _ _ _ h => h) (Or.inl ⟨by rfl, ?_⟩) (by assumption) ?_
      rotate_left
      · intro w hSw; have c5 := fun j => cell_of_row w _ j _ 105 (0, 0) hSw; go_simp; try with_reducible rfl
      simp only [Act.put, List.setIfInBounds_toArray, List.set_cons_zero, List.set_cons_succ]
      refine wpAnyH_ready (rs := [4, 6]) (by kernel_rfl) (by simp) ?_
      refine AllReadyH.cons (o := { dst := some 54, op := Op.load 61 (Operand.tmp 53), type := 61, pos := "law.go:101", after := #[{ on := 3, ground := Ground.data }], guard := none }) rfl (fun K' hK' => ?_) (AllReadyH.cons (o := { dst := some 56, op := Op.buildSlice 61 1 #[(0, Operand.tmp 55)], type := 61, pos := "law.go:101", after := #[{ on := 5, ground := Ground.data }], guard := none }) rfl (fun K' hK' => ?_) AllReadyH.nil)
      · go_simp
        refine hK'.out _ _ ?_ (fun hHeld => ?_)
        · exact unhide XD
        clear hK' K'
        try simp only [Act.put, List.setIfInBounds_toArray, List.set_cons_zero, List.set_cons_succ]
        refine wpAnyH_ready (rs := [6]) (by kernel_rfl) (by simp) ?_
        refine AllReadyH.cons (o := { dst := some 56, op := Op.buildSlice 61 1 #[(0, Operand.tmp 55)], type := 61, pos := "law.go:101", after := #[{ on := 5, ground := Ground.data }], guard := none }) rfl (fun K' hK' => ?_) AllReadyH.nil
        go_simp
        refine hK'.out _ _ ?_ (fun hHeld => ?_)
        · exact hE5 _
        clear hK' K'
        try simp only [Act.put, List.setIfInBounds_toArray, List.set_cons_zero, List.set_cons_succ]
        refine wpAnyH_ready (rs := [7]) (by kernel_rfl) (by simp) ?_
        refine AllReadyH.cons (o := { dst := some 57, op := Op.call { callee := Callee.builtin Builtin.append, args := #[Operand.tmp 54, Operand.tmp 56], argTypes := #[61, 61] }, type := 61, pos := "law.go:101", after := #[{ on := 4, ground := Ground.data }, { on := 6, ground := Ground.data }], guard := none }) rfl (fun K' hK' => ?_) AllReadyH.nil
        refine step_grown (d := 57) rfl elem105 (by decide) (by decide) (v := .slice aI LI.length cI) (n := LI.length) (m := 1) (xs := flat5 LI) (news := [.slice a l.length c, .slice aa (l.length + 1) ca, .slice ab (l.length + 2) cb, .slice ac (l.length + 3) cc, .int .i64 m]) (B := B) (ad := ⟨wd.heap.size, 0, none⟩) (cap := 1) rfl (.tmp 54) (.tmp 56) rfl rfl rfl ((unhide BK).fr ((Fr.refl _ _).alloc (.cells #[.slice a l.length c, .slice aa (l.length + 1) ca, .slice ab (l.length + 2) cb, .slice ac (l.length + 3) cc, .int .i64 m] 105)).drew).bk.rI rfl (World.news_of_block (heap_alloc_new wd _)) (by simp [Value.oneCell']) (by omega) (by omega) (by simp; omega) ?_
        intro v3 w3 o3 f3 sh3
        obtain ⟨av, cv, rfl⟩ := sh3
        have pr : w3.heap[bb]? = some (.cells #[.int .i64 (wrap64 (n + 1)), .slice aI LI.length cI, vE, vN] 65) := by
          have hb2 := ((unhide BK).fr ((Fr.refl _ _).alloc (.cells #[.slice a l.length c, .slice aa (l.length + 1) ca, .slice ab (l.length + 2) cb, .slice ac (l.length + 3) cc, .int .i64 m] 105)).drew)
          exact (f3.same bb (Array.getElem?_eq_some_iff.1 hb2.bk.blk).1 (own_ty hb2.bk.rI hb2.bk.blk (by decide))).trans hb2.bk.blk
        have pc := fun j => cell_of_row w3 bb j _ 65 (0, 0) pr
        have pz := fun j => frozen_rowE pr j
        have gg : w3.heap[wr.heap.size]? = some (.cells #[.slice a l.length c, .slice aa (l.length + 1) ca, .slice ab (l.length + 2) cb, .slice ac (l.length + 3) cc, .int .i64 m] 105 (0, 0)) := (f3.same _ (Array.getElem?_eq_some_iff.1 (hE5 _)).1 (fun hq => ?_)).trans (hE5 (.cells #[.slice a l.length c, .slice aa (l.length + 1) ca, .slice ab (l.length + 2) cb, .slice ac (l.length + 3) cc, .int .i64 m] 105))
        rotate_left
        · exact hX5 hq
        have O3 := hide o3
        have F3 := hide f3
        clear o3 f3 pr
        refine hK'.out _ _ gg (fun hHeld => ?_)
        clear hK' K'
        simp only [List.setIfInBounds_toArray, List.set_cons_zero, List.set_cons_succ]
        refine wpAnyH_take (i := 8) (oi := { dst := some 58, op := Op.nilCheck (Operand.tmp 50), type := 0, pos := "law.go:101", after := #[{ on := 0, ground := Ground.data }, { on := 0, ground := Ground.phase }, { on := 1, ground := Ground.phase }, { on := 2, ground := Ground.phase }, { on := 3, ground := Ground.phase }, { on := 4, ground := Ground.phase }, { on := 5, ground := Ground.phase }, { on := 6, ground := Ground.phase }, { on := 7, ground := Ground.phase }], guard := none }) (v := ?_) rfl (by kernel_rfl) (by kernel_rfl) (by kernel_rfl) (fun _ _ _ h => h) (Or.inl ⟨by rfl, ?_⟩) (by assumption) ?_
        rotate_left
        · intro w hSw; (try dsimp only at hSw); go_simp; try with_reducible rfl
        simp only [Act.put, List.setIfInBounds_toArray, List.set_cons_zero, List.set_cons_succ]
        refine wpAnyH_take (i := 9) (oi := { dst := some 59, op := Op.fieldAddr 65 (Operand.tmp 58) 1, type := 0, pos := "law.go:101", after := #[{ on := 8, ground := Ground.data }, { on := 0, ground := Ground.phase }, { on := 1, ground := Ground.phase }, { on := 2, ground := Ground.phase }, { on := 3, ground := Ground.phase }, { on := 4, ground := Ground.phase }, { on := 5, ground := Ground.phase }, { on := 6, ground := Ground.phase }, { on := 7, ground := Ground.phase }], guard := none }) (v := ?_) rfl (by kernel_rfl) (by kernel_rfl) (by kernel_rfl) (fun _ _ _ h => h) (Or.inl ⟨by rfl, ?_⟩) (by assumption) ?_
        rotate_left
        · intro w hSw; (try dsimp only at hSw); go_simp; try with_reducible rfl
        simp only [Act.put, List.setIfInBounds_toArray, List.set_cons_zero, List.set_cons_succ]
        refine wpAnyH_ready (rs := [10]) (by kernel_rfl) (by simp) ?_
        refine AllReadyH.cons (o := { dst := none, op := Op.store 61 (Operand.tmp 59) (Operand.tmp 57), type := 0, pos := "law.go:101", after := #[{ on := 9, ground := Ground.data }, { on := 7, ground := Ground.data }, { on := 7, ground := Ground.chain }, { on := 0, ground := Ground.phase }, { on := 1, ground := Ground.phase }, { on := 2, ground := Ground.phase }, { on := 3, ground := Ground.phase }, { on := 4, ground := Ground.phase }, { on := 5, ground := Ground.phase }, { on := 6, ground := Ground.phase }, { on := 7, ground := Ground.phase }], guard := none }) rfl (fun K' hK' => ?_) AllReadyH.nil
        go_simp
        refine hK'.out _ _ ?_ (fun hHeld => ?_)
        · exact (Below.heap_setCell _ _ _ _ hXb).trans gg
        clear hK' K'
        try simp only [Act.put, List.setIfInBounds_toArray, List.set_cons_zero, List.set_cons_succ]
        refine wpAnyH_done (by kernel_rfl) ?_ _
        go_wp2
        go_end0
        exact ⟨rfl, fin _ w3 (unhide O3) (unhide F3)⟩
      · go_simp
        refine hK'.out _ _ ?_ (fun hHeld => ?_)
        · exact hE5 _
        clear hK' K'
        try simp only [Act.put, List.setIfInBounds_toArray, List.set_cons_zero, List.set_cons_succ]
        refine wpAnyH_ready (rs := [4]) (by kernel_rfl) (by simp) ?_
        refine AllReadyH.cons (o := { dst := some 54, op := Op.load 61 (Operand.tmp 53), type := 61, pos := "law.go:101", after := #[{ on := 3, ground := Ground.data }], guard := none }) rfl (fun K' hK' => ?_) AllReadyH.nil
        go_simp
        refine hK'.out _ _ ?_ (fun hHeld => ?_)
        · exact hE5 _
        clear hK' K'
        try simp only [Act.put, List.setIfInBounds_toArray, List.set_cons_zero, List.set_cons_succ]
        refine wpAnyH_ready (rs := [7]) (by kernel_rfl) (by simp) ?_
        refine AllReadyH.cons (o := { dst := some 57, op := Op.call { callee := Callee.builtin Builtin.append, args := #[Operand.tmp 54, Operand.tmp 56], argTypes := #[61, 61] }, type := 61, pos := "law.go:101", after := #[{ on := 4, ground := Ground.data }, { on := 6, ground := Ground.data }], guard := none }) rfl (fun K' hK' => ?_) AllReadyH.nil
        refine step_grown (d := 57) rfl elem105 (by decide) (by decide) (v := .slice aI LI.length cI) (n := LI.length) (m := 1) (xs := flat5 LI) (news := [.slice a l.length c, .slice aa (l.length + 1) ca, .slice ab (l.length + 2) cb, .slice ac (l.length + 3) cc, .int .i64 m]) (B := B) (ad := ⟨wd.heap.size, 0, none⟩) (cap := 1) rfl (.tmp 54) (.tmp 56) rfl rfl rfl ((unhide BK).fr ((Fr.refl _ _).alloc (.cells #[.slice a l.length c, .slice aa (l.length + 1) ca, .slice ab (l.length + 2) cb, .slice ac (l.length + 3) cc, .int .i64 m] 105)).drew).bk.rI rfl (World.news_of_block (heap_alloc_new wd _)) (by simp [Value.oneCell']) (by omega) (by omega) (by simp; omega) ?_
        intro v3 w3 o3 f3 sh3
        obtain ⟨av, cv, rfl⟩ := sh3
        have pr : w3.heap[bb]? = some (.cells #[.int .i64 (wrap64 (n + 1)), .slice aI LI.length cI, vE, vN] 65) := by
          have hb2 := ((unhide BK).fr ((Fr.refl _ _).alloc (.cells #[.slice a l.length c, .slice aa (l.length + 1) ca, .slice ab (l.length + 2) cb, .slice ac (l.length + 3) cc, .int .i64 m] 105)).drew)
          exact (f3.same bb (Array.getElem?_eq_some_iff.1 hb2.bk.blk).1 (own_ty hb2.bk.rI hb2.bk.blk (by decide))).trans hb2.bk.blk
        have pc := fun j => cell_of_row w3 bb j _ 65 (0, 0) pr
        have pz := fun j => frozen_rowE pr j
        have gg : w3.heap[wr.heap.size]? = some (.cells #[.slice a l.length c, .slice aa (l.length + 1) ca, .slice ab (l.length + 2) cb, .slice ac (l.length + 3) cc, .int .i64 m] 105 (0, 0)) := (f3.same _ (Array.getElem?_eq_some_iff.1 (hE5 _)).1 (fun hq => ?_)).trans (hE5 (.cells #[.slice a l.length c, .slice aa (l.length + 1) ca, .slice ab (l.length + 2) cb, .slice ac (l.length + 3) cc, .int .i64 m] 105))
        rotate_left
        · exact hX5 hq
        have O3 := hide o3
        have F3 := hide f3
        clear o3 f3 pr
        refine hK'.out _ _ gg (fun hHeld => ?_)
        clear hK' K'
        simp only [List.setIfInBounds_toArray, List.set_cons_zero, List.set_cons_succ]
        refine wpAnyH_take (i := 8) (oi := { dst := some 58, op := Op.nilCheck (Operand.tmp 50), type := 0, pos := "law.go:101", after := #[{ on := 0, ground := Ground.data }, { on := 0, ground := Ground.phase }, { on := 1, ground := Ground.phase }, { on := 2, ground := Ground.phase }, { on := 3, ground := Ground.phase }, { on := 4, ground := Ground.phase }, { on := 5, ground := Ground.phase }, { on := 6, ground := Ground.phase }, { on := 7, ground := Ground.phase }], guard := none }) (v := ?_) rfl (by kernel_rfl) (by kernel_rfl) (by kernel_rfl) (fun _ _ _ h => h) (Or.inl ⟨by rfl, ?_⟩) (by assumption) ?_
        rotate_left
        · intro w hSw; (try dsimp only at hSw); go_simp; try with_reducible rfl
        simp only [Act.put, List.setIfInBounds_toArray, List.set_cons_zero, List.set_cons_succ]
        refine wpAnyH_take (i := 9) (oi := { dst := some 59, op := Op.fieldAddr 65 (Operand.tmp 58) 1, type := 0, pos := "law.go:101", after := #[{ on := 8, ground := Ground.data }, { on := 0, ground := Ground.phase }, { on := 1, ground := Ground.phase }, { on := 2, ground := Ground.phase }, { on := 3, ground := Ground.phase }, { on := 4, ground := Ground.phase }, { on := 5, ground := Ground.phase }, { on := 6, ground := Ground.phase }, { on := 7, ground := Ground.phase }], guard := none }) (v := ?_) rfl (by kernel_rfl) (by kernel_rfl) (by kernel_rfl) (fun _ _ _ h => h) (Or.inl ⟨by rfl, ?_⟩) (by assumption) ?_
        rotate_left
        · intro w hSw; (try dsimp only at hSw); go_simp; try with_reducible rfl
        simp only [Act.put, List.setIfInBounds_toArray, List.set_cons_zero, List.set_cons_succ]
        refine wpAnyH_ready (rs := [10]) (by kernel_rfl) (by simp) ?_
        refine AllReadyH.cons (o := { dst := none, op := Op.store 61 (Operand.tmp 59) (Operand.tmp 57), type := 0, pos := "law.go:101", after := #[{ on := 9, ground := Ground.data }, { on := 7, ground := Ground.data }, { on := 7, ground := Ground.chain }, { on := 0, ground := Ground.phase }, { on := 1, ground := Ground.phase }, { on := 2, ground := Ground.phase }, { on := 3, ground := Ground.phase }, { on := 4, ground := Ground.phase }, { on := 5, ground := Ground.phase }, { on := 6, ground := Ground.phase }, { on := 7, ground := Ground.phase }], guard := none }) rfl (fun K' hK' => ?_) AllReadyH.nil
        go_simp
        refine hK'.out _ _ ?_ (fun hHeld => ?_)
        · exact (Below.heap_setCell _ _ _ _ hXb).trans gg
        clear hK' K'
        try simp only [Act.put, List.setIfInBounds_toArray, List.set_cons_zero, List.set_cons_succ]
        refine wpAnyH_done (by kernel_rfl) ?_ _
        go_wp2
        go_end0
        exact ⟨rfl, fin _ w3 (unhide O3) (unhide F3)⟩
end Go.Proofs.YtfmbebofllgmoaaGreatDoor
namespace Go.Proofs.YtfmbebofllgmoaaGreatDoor
open Go.RowKit
attribute [local go_sem ↓] Go.wp_at_zero Go.wp_at_succ

theorem both_same {U wa : World} {B e s n j : Nat} {lv va : Value} {xs : List Value} (_ho : U.ownsRow B e s lv n xs) (hd : (∃ g cp, lv = .slice (some ⟨g, 0, none⟩) n cp ∧ va = .slice (some ⟨g, 0, none⟩) (n + j) cp ∧ n + j ≤ cp ∧ U.grownBy wa (some g)) ∨ (U.grownBy wa none ∧ ∀ q, own va q → U.heap.size ≤ q)) (q : Nat) (hq : q < U.heap.size) (hn : ¬ own lv q) : wa.heap[q]? = U.heap[q]? := by
  rcases hd with ⟨g, cp, hl, _, _, hg⟩ | ⟨hg, _⟩
  · exact hg.block q hq (fun e => hn (by rw [hl]; simp only [own, Value.ownBlock]; exact e.symm))
  · exact hg.block q hq (by simp)
theorem row_at {w : World} {B e s n c : Nat} {a : Option Addr} {xs : List Value} (h : w.ownsRow B e s (.slice a n c) n xs) (hn : 0 < n) : ∃ g, a = some ⟨g, 0, none⟩ ∧ g < w.heap.size ∧ (∀ k, k < n * s → ∃ v, w.cell? ⟨g, k, none⟩ = some v) ∧ ∀ k, w.frozen? ⟨g, k, none⟩ = false := by
  obtain ⟨h0, h1⟩ := h
  rcases h1 with ⟨hv, h2⟩ | ⟨g, cap, cur, hv, hB, hg, hc1, hc2, hc3, hc4⟩
  · omega
  · cases hv
    refine ⟨g, rfl, (Array.getElem?_eq_some_iff.1 hg).1, fun k hk => ?_, fun k => frozen_rowE hg k⟩
    have hlt : k < cur.size := by rw [hc3]; exact Nat.lt_of_lt_of_le hk (Nat.mul_le_mul_right s hc1)
    exact ⟨cur[k], (cell_of_row w g k cur e (0, 0) hg).trans (Array.getElem?_eq_getElem hlt)⟩
theorem row_set {w : World} {B e s n c g k : Nat} {xs : List Value} (h : w.ownsRow B e s (.slice (some ⟨g, 0, none⟩) n c) n xs) (z : Value) (_hk : k < n * s) : (w.setCell ⟨g, k, none⟩ z).ownsRow B e s (.slice (some ⟨g, 0, none⟩) n c) n (xs.set k z) := by
  obtain ⟨h0, h1⟩ := h
  rcases h1 with ⟨hv, h2⟩ | ⟨g', cap, cur, hv, hB, hg, hc1, hc2, hc3, hc4⟩
  · cases hv
  · cases hv
    refine ⟨by simpa using h0, .inr ⟨g, c, cur.setIfInBounds k z, rfl, hB, setCell_row w g k cur e _ hg, hc1, hc2, by simpa using hc3, ?_⟩⟩
    rw [Array.toList_setIfInBounds, List.take_set, hc4]
theorem reps_one (us : List Value) : reps 1 us = us := by unfold reps; simp
theorem drop_cons {l : List Value} {k : Nat} (h : k < l.length) : ∃ d, l.drop k = d :: l.drop (k + 1) := ⟨_, List.drop_eq_getElem_cons h⟩
theorem set_at (p : List Value) {k i : Nat} (hk : p.length = k) (q : List Value) (z : Value) : (p ++ q).set (k + i) z = p ++ q.set i z := by
  rw [List.set_append_right _ _ (by omega), show k + i - p.length = i by omega]
theorem set_at0 (p : List Value) {k : Nat} (hk : p.length = k) (q : List Value) (z : Value) : (p ++ q).set k z = p ++ q.set 0 z := set_at p hk (i := 0) q z
theorem unit_set4 {w : World} {B e n c g j : Nat} {xs : List Value} {u0 u1 u2 u3 : Value} (h : w.ownsRow B e 4 (.slice (some ⟨g, 0, none⟩) n c) n (reps j [u0, u1, u2, u3] ++ xs.drop (j * 4))) (hj : j < n) (z0 z1 z2 z3 : Value) (e0 : z0 = u0 := by rfl) (e1 : z1 = u1 := by rfl) (e2 : z2 = u2 := by rfl) (e3 : z3 = u3 := by rfl) :
    ((((w.setCell ⟨g, j * 4, none⟩ z0).setCell ⟨g, j * 4 + 1, none⟩ z1).setCell ⟨g, j * 4 + 2, none⟩ z2).setCell ⟨g, j * 4 + 3, none⟩ z3).ownsRow B e 4 (.slice (some ⟨g, 0, none⟩) n c) n (reps (j + 1) [u0, u1, u2, u3] ++ xs.drop ((j + 1) * 4)) := by
  subst e0 e1 e2 e3
  have hr := row_set (row_set (row_set (row_set h z0 (k := j * 4) (by omega)) z1 (k := j * 4 + 1) (by omega)) z2 (k := j * 4 + 2) (by omega)) z3 (k := j * 4 + 3) (by omega)
  have hl := h.1
  rw [List.length_append, reps_length, List.length_drop] at hl
  simp only [List.length_cons, List.length_nil] at hl
  have hp : (reps j [z0, z1, z2, z3]).length = j * 4 := reps_length _ _
  obtain ⟨d0, x0⟩ := drop_cons (l := xs) (k := j * 4) (by omega)
  obtain ⟨d1, x1⟩ := drop_cons (l := xs) (k := j * 4 + 1) (by omega)
  obtain ⟨d2, x2⟩ := drop_cons (l := xs) (k := j * 4 + 1 + 1) (by omega)
  obtain ⟨d3, x3⟩ := drop_cons (l := xs) (k := j * 4 + 1 + 1 + 1) (by omega)
  rw [x0, x1, x2, x3] at hr
  rw [set_at0 _ hp, set_at _ hp, set_at _ hp, set_at _ hp] at hr
  rw [← reps_append, reps_one, List.append_assoc, show (j + 1) * 4 = j * 4 + 1 + 1 + 1 + 1 by omega]
  exact hr
theorem elem111 : Elem 63 111 5 104 := elem_of _ _ _ _ (.agg #[.slice none 0 0, .slice none 0 0, .slice none 0 0, .slice none 0 0, .int .i64 0]) Tryz.underlying63 (by kernel_rfl) rfl
/-- What comes of keeping a list of kind N. -/
def KeptN (w w' : World) (B bb : Nat) (n : Int) (vI vE vN : Value) (LI LE LN : List Ent) (K : Nat → Prop) (lv : Value) : Prop :=
  ∃ vX' e K', BookK w' B bb n vI vE vX' LI LE (LN ++ [e]) K' ∧ (∀ q, K' q → K q ∨ own lv q ∨ w.heap.size ≤ q) ∧ (∀ q, own vX' q → own vN q ∨ w.heap.size ≤ q) ∧ Fr (fun q => q = bb ∨ own vN q ∨ own lv q ∨ w.heap.size ≤ q) w w' (fun q => q = bb ∨ own vN q ∨ own lv q ∨ w.heap.size ≤ q)
end Go.Proofs.YtfmbebofllgmoaaGreatDoor
namespace Go.Proofs.YtfmbebofllgmoaaGreatDoor
open Go.RowKit
attribute [local go_sem ↓] Go.wp_at_zero Go.wp_at_succ

theorem pair_apart {α : Type} {R : α → α → Prop} : ∀ {l : List α}, l.Pairwise R → ∀ {i : Nat} {x y : α}, l[i]? = some x → y ∈ l.take i → R y x
  | a :: r, h, 0, x, y, hx, hy => by simp at hy
  | a :: r, h, i + 1, x, y, hx, hy => by
    rw [List.take_succ_cons, List.mem_cons] at hy
    rw [List.getElem?_cons_succ] at hx
    rw [List.pairwise_cons] at h
    rcases hy with rfl | hy
    · exact h.1 x (List.mem_of_getElem? hx)
    · exact pair_apart h.2 hx hy
/-- The Book where the files of the first inputs are kept. -/
structure FilesK (w wr : World) (B bb : Nat) (vI vE vN : Value) (LI LE LN : List Ent) (K : Nat → Prop) (ps : List (Inp × Value)) (j : Nat) (n' : Int) (vI' : Value) (LI' : List Ent) (K' : Nat → Prop) : Prop where
  bk : BookK wr B bb n' vI' vE vN LI' LE LN K'
  len : LI'.length = LI.length + j
  k : ∀ q, K' q → K q ∨ (∃ p, p ∈ ps.take j ∧ own p.2 q) ∨ w.heap.size ≤ q
  v : ∀ q, own vI' q → own vI q ∨ w.heap.size ≤ q
  fr : Fr (fun q => q = bb ∨ own vI q ∨ (∃ p, p ∈ ps.take j ∧ own p.2 q) ∨ w.heap.size ≤ q) w wr (fun q => q = bb ∨ own vI q ∨ (∃ p, p ∈ ps.take j ∧ own p.2 q) ∨ w.heap.size ≤ q)
theorem FilesK.step {w wr w' : World} {B bb : Nat} {vI vE vN : Value} {LI LE LN : List Ent} {K : Nat → Prop} {ps : List (Inp × Value)} {j : Nat} {n' n2 : Int} {vI' : Value} {LI' : List Ent} {K' : Nat → Prop} {x : Inp} {fv : Value} (h : FilesK w wr B bb vI vE vN LI LE LN K ps j n' vI' LI' K') (hp : ps[j]? = some (x, fv)) (hk : KeptI wr w' B bb n2 vI' vE vN LI' LE LN K' fv) : ∃ vI2 LI2 K2, FilesK w w' B bb vI vE vN LI LE LN K ps (j + 1) n2 vI2 LI2 K2 := by
  obtain ⟨vX, e, K2, hb, hk2, hv2, hf2⟩ := hk
  have ht : ps.take (j + 1) = ps.take j ++ [(x, fv)] := by rw [List.take_add_one, hp]; rfl
  have hsz := h.fr.size
  have up : ∀ {q}, (∃ p, p ∈ ps.take j ∧ own p.2 q) → ∃ p, p ∈ ps.take (j + 1) ∧ own p.2 q := fun ⟨p, hp, hq⟩ => ⟨p, by rw [ht]; exact List.mem_append_left _ hp, hq⟩
  have now : ∀ {q}, own fv q → ∃ p, p ∈ ps.take (j + 1) ∧ own p.2 q := fun hq => ⟨(x, fv), by rw [ht]; simp, hq⟩
  refine ⟨vX, LI' ++ [e], K2, hb, by rw [List.length_append, h.len]; rfl, fun q hq => ?_, fun q hq => ?_, ?_⟩
  · rcases hk2 q hq with h1 | h1 | h1
    · rcases h.k q h1 with h3 | h3 | h3
      · exact .inl h3
      · exact .inr (.inl (up h3))
      · exact .inr (.inr h3)
    · exact .inr (.inl (now h1))
    · exact .inr (.inr (by omega))
  · rcases hv2 q hq with h1 | h1
    · exact h.v q h1
    · exact .inr (by omega)
  · refine (h.fr.widen (fun q hq => ?_)).trans (hf2.widen (fun q hq => ?_))
    · rcases hq with h1 | h1 | h1 | h1
      · exact .inl h1
      · exact .inr (.inl h1)
      · exact .inr (.inr (.inl (up h1)))
      · exact .inr (.inr (.inr h1))
    · rcases hq with h1 | h1 | h1 | h1
      · exact .inl h1
      · rcases h.v q h1 with h3 | h3
        · exact .inr (.inl h3)
        · exact .inr (.inr (.inr h3))
      · exact .inr (.inr (.inl (now h1)))
      · exact .inr (.inr (.inr (by omega)))
/-- What comes of keepInputs. -/
def InsKept (w w' : World) (B bb : Nat) (vE : Value) (LI LE LN : List Ent) (k : Nat) : Prop :=
  ∃ n' vI' vN' LI' LN' K', BookK w' B bb n' vI' vE vN' LI' LE LN' K' ∧ LI'.length = LI.length + k ∧ LN'.length = LN.length + 1 ∧ Below B w w'
theorem FilesK.close {w w2 w' : World} {B bb : Nat} {vI vE vN : Value} {LI LE LN : List Ent} {K : Nat → Prop} {ps : List (Inp × Value)} {j : Nat} {n' n2 : Int} {vI' lv : Value} {LI' : List Ent} {K' : Nat → Prop} (hb0 : BookK w B bb n' vI vE vN LI LE LN K) (hbb : B ≤ bb) (hBw : B ≤ w.heap.size) (hi : InsAt w B lv ps) {n0 : Int} (h : FilesK w w2 B bb vI vE vN LI LE LN K ps j n0 vI' LI' K') (hk : KeptN w2 w' B bb n2 vI' vE vN LI' LE LN K' lv) : InsKept w w' B bb vE LI LE LN j := by
  obtain ⟨vX, e, K2, hb, _, _, hf2⟩ := hk
  have hsz := h.fr.size
  refine ⟨_, _, _, _, _, _, hb, h.len, by simp, ?_⟩
  have b1 : Below B w w2 := h.fr.below (fun q hq => by
    rcases hq with h1 | h1 | ⟨p, hp, h1⟩ | h1
    · omega
    · exact (World.ownsRow.lt hb0.bk.rI q h1).1
    · exact (World.ownsRow.lt (hi.fl p (List.mem_of_mem_take hp)) q h1).1
    · omega) hBw
  exact b1.trans (hf2.below (fun q hq => by
    rcases hq with h1 | h1 | h1 | h1
    · omega
    · exact (World.ownsRow.lt hb0.bk.rN q h1).1
    · exact (World.ownsRow.lt hi.row q h1).1
    · omega) (by omega))
set_option maxHeartbeats 4000000 in
set_option maxRecDepth 20000 in
theorem keepInputs_nn {w : World} {B bb : Nat} {n0 : Int} {vI vE vN : Value} {LI LE LN : List Ent} {K : Nat → Prop} (h : BookK w B bb n0 vI vE vN LI LE LN K) (hbb : B ≤ bb) (hBw0 : B ≤ w.heap.size) {lv : Value} {ps : List (Inp × Value)} {nn : Nat} (hn : ps.length = nn) (hi : InsAt w B lv ps) (hk : ∀ q, inS lv ps q → ¬ K q) (hl : nn ≤ 100000000) (hfl : ∀ p, p ∈ ps → p.1.2.2.2.length ≤ 100) (hL : LI.length + nn ≤ 900000000000) (hLN : LN.length ≤ 900000000000) :
    Calls Tryz.prog 45 #[.pointer (some ⟨bb, 0, none⟩), lv] w fun e w' => e = .returned (.tuple #[]) ∧ InsKept w w' B bb vE LI LE LN nn := by
  have hrow := hi.row
  rw [hn] at hrow
  obtain ⟨a, c, rfl⟩ := row_shape hrow
  obtain ⟨aX, cX, rfl⟩ := row_shape h.bk.rN
  have hgt : ∀ (wr : World) j n' vI' LI' K', FilesK w wr B bb vI vE (.slice aX LN.length cX) LI LE LN K ps j n' vI' LI' K' → ∀ q, q < w.heap.size → ¬ (∃ cur, w.heap[q]? = some (.cells cur 65 (0, 0))) → ¬ (∃ cur, w.heap[q]? = some (.cells cur 105 (0, 0))) → ¬ (∃ p, p ∈ ps.take j ∧ own p.2 q) → wr.heap[q]? = w.heap[q]? := fun wr j n' vI' LI' K' hfk q hq h1 h2 h3 => hfk.fr.same q hq (fun ht => by
      rcases ht with e | e | e | e
      · exact h1 ⟨_, by rw [e]; exact h.bk.blk⟩
      · exact h2 (row_d h.bk.rI e)
      · exact h3 e
      · omega)
  have hrw : ∀ (wr : World) j n' vI' LI' K', FilesK w wr B bb vI vE (.slice aX LN.length cX) LI LE LN K ps j n' vI' LI' K' → ∀ q, own (.slice a nn c) q → wr.heap[q]? = w.heap[q]? := fun wr j n' vI' LI' K' hfk q hq => by
    obtain ⟨cur, hcur⟩ := row_d hrow hq
    refine hgt wr j n' vI' LI' K' hfk q (World.ownsRow.lt hrow q hq).2 (fun ⟨_, e⟩ => absurd (ty_one e hcur) (by decide)) (fun ⟨_, e⟩ => absurd (ty_one e hcur) (by decide)) (fun ⟨p, hp', hq'⟩ => ?_)
    exact hi.sep p (List.mem_of_mem_take hp') q hq' hq
  have key : ∀ (wr : World) j n' vI' LI' K', j < nn → FilesK w wr B bb vI vE (.slice aX LN.length cX) LI LE LN K ps j n' vI' LI' K' → ∃ g fa fn fc x, a = some ⟨g, 0, none⟩ ∧ g < wr.heap.size ∧ ps[j]? = some (x, .slice fa fn fc) ∧ wr.cell? ⟨g, j * 4 + 3, none⟩ = some (.slice fa fn fc) ∧ Calls Tryz.prog 79 #[.pointer (some ⟨bb, 0, none⟩), .slice fa fn fc] wr fun e w' => e = .returned (.tuple #[]) ∧ KeptI wr w' B bb (wrap64 (n' + 1)) vI' vE (.slice aX LN.length cX) LI' LE LN K' (.slice fa fn fc) := fun wr j n' vI' LI' K' hj hfk => by
    obtain ⟨g, cc, x, fv, hv, hgl, hp, _, _, _, h3, hof⟩ := hi.cells (i := j) (by omega)
    obtain ⟨fa, fn, fc, rfl⟩ := ownI_shape hof
    injection hv with hv hv2 hv3
    have hmem : (x, Value.slice fa fn fc) ∈ ps := List.mem_of_getElem? hp
    have hown : ∀ q, own (.slice fa fn fc) q → wr.heap[q]? = w.heap[q]? := fun q hq => by
      obtain ⟨cur, hcur⟩ := row_d hof hq
      refine hgt wr j n' vI' LI' K' hfk q (World.ownsRow.lt hof q hq).2 (fun ⟨_, e⟩ => absurd (ty_one e hcur) (by decide)) (fun ⟨_, e⟩ => absurd (ty_one e hcur) (by decide)) (fun ⟨p, hp', hq'⟩ => ?_)
      exact pair_apart hi.dis hp hp' q hq' hq
    have hgg : wr.heap[g]? = w.heap[g]? := hrw wr j n' vI' LI' K' hfk g (by rw [hv]; rfl)
    have hofr : OwnI wr B (.slice fa fn fc) (zs x.2.2.2) := ownsRow_of_block hof hown
    have hcall := keepInts_any hfk.bk (Nat.le_trans hBw0 hfk.fr.size) hofr (fun q hq hkq => by
      rcases hfk.k q hkq with e | ⟨p, hp', hq'⟩ | e
      · exact hk q (.inr ⟨_, hmem, hq⟩) e
      · exact pair_apart hi.dis hp hp' q hq' hq
      · have := (World.ownsRow.lt hof q hq).2; omega) (by rw [zs_len]; exact Nat.le_trans (hfl _ hmem) (by omega)) (by have := hfk.len; omega)
    exact ⟨g, fa, fn, fc, x, hv, Nat.lt_of_lt_of_le hgl hfk.fr.size, hp, (cellOf_heap hgg).trans h3, hcall⟩
  have start : FilesK w w B bb vI vE (.slice aX LN.length cX) LI LE LN K ps 0 n0 vI LI K := ⟨h, rfl, fun _ hq => .inl hq, fun _ hq => .inl hq, Fr.refl _ _⟩
  have KEY := hide key
  have ST := hide start
  have H0 := hide h
  have HI := hide hi
  have HK0 := hide hk
  have HRW := hide hrw
  have HROW := hide hrow
  have HN := hide hn
  clear key start h hi hk hfl hgt hrw hrow hn
  go_enter Tryz.func45, Tryz.ntmps45
  go_wp2
  go_loopw [4] (fun i wr => ∃ j : Nat, j ≤ nn ∧ i = .int .i64 j ∧ ∃ n' vI' LI' K', FilesK w wr B bb vI vE (.slice aX LN.length cX) LI LE LN K ps j n' vI' LI' K') (fun i _ => nn - (intOf i).toNat)
  case atStart => exact ⟨0, Nat.zero_le _, rfl, _, _, _, _, unhide ST⟩
  case round =>
    obtain ⟨j, hj, rfl, nf, vIf, LIf, Kf, hfk⟩ := hrel
    by_cases hlt : j < nn
    · obtain ⟨g, fa, fn, fc, x, rfl, hgl, hp, hc3, hcall⟩ := unhide KEY wr j nf vIf LIf Kf hlt hfk
      have HC := hide hcall
      have HFK := hide hfk
      have hk0 : (0 : Int) ≤ (j : Int) := by omega
      have hk1 : (j : Int) < (nn : Int) := by omega
      clear hcall hfk KEY
      go_wp2_with fail
      go_at_call 79
      refine (unhide HC).mono ?_
      rintro e w3 ⟨rfl, hkept⟩
      obtain ⟨vI2, LI2, K2, h2⟩ := (unhide HFK).step hp hkept
      clear HC hkept
      have H2 := hide h2
      clear h2
      go_wp2
      go_roundw
      case rel => exact ⟨j + 1, by omega, by go_num, _, _, _, _, unhide H2⟩
      case measure => simp [intOf]; omega
    · have hjl : j = nn := by omega
      subst hjl
      rename Nat => nn
      have hk1 : ¬ (nn : Int) < (nn : Int) := by omega
      rename World => w2
      have close : ∀ w', KeptN w2 w' B bb (wrap64 (nf + 1)) vIf vE (.slice aX LN.length cX) LIf LE LN Kf (.slice a nn c) → InsKept w w' B bb vE LI LE LN nn := fun w' h => hfk.close (unhide H0) hbb hBw0 (unhide HI) h
      have HB := hide hfk.bk
      have ho2 : w2.ownsRow B 49 4 (.slice a nn c) nn (flatP ps) := ownsRow_of_block (unhide HROW) (fun q hq => unhide HRW w2 nn nf vIf LIf Kf hfk q hq)
      have HO := hide ho2
      have hnb : ¬ own (.slice a nn c) bb := own_ty (unhide HROW) (unhide H0).bk.blk (by decide)
      have hkk : ∀ q, own (.slice a nn c) q → ¬ Kf q := fun q hq hkq => by
        rcases hfk.k q hkq with e | ⟨p, hp', hq'⟩ | e
        · exact unhide HK0 q (.inl hq) e
        · exact (unhide HI).sep p (List.mem_of_mem_take hp') q hq' hq
        · have := (World.ownsRow.lt (unhide HROW) q hq).2; omega
      have HK := hide hkk
      have hBw : B ≤ w2.heap.size := Nat.le_trans hBw0 hfk.fr.size
      have CLOSE := hide close
      clear hfk ho2 hkk close KEY ST H0 HI HK0 HRW HROW
      have HNB := hide hnb
      clear hnb
      have y0 := setCell_row w2 bb 0 _ 65 (.int .i64 (wrap64 (nf + 1))) (unhide HB).bk.blk
      have cb := fun j => cell_of_row w2 _ j _ 65 (0, 0) (unhide HB).bk.blk
      have zb := fun j => frozen_rowE (unhide HB).bk.blk j
      have hbw : bb < w2.heap.size := (Array.getElem?_eq_some_iff.1 (unhide HB).bk.blk).1
      have Y0 := hide y0
      clear y0
      go_wp2
      obtain ⟨m, hm⟩ : ∃ m, wrap64 (1000 + wrap64 (nf + 1)) = m := ⟨_, rfl⟩
      rw [hm]
      have z1 : (w2.setCell ⟨bb, 0, none⟩ (.int .i64 (wrap64 (nf + 1)))).heap.size = w2.heap.size := by simp [World.setCell]
      have hf1 : Fr (fun q => q = bb) w2 ((w2.setCell ⟨bb, 0, none⟩ (.int .i64 (wrap64 (nf + 1)))).alloc (.cells #[.int .i64 0, .int .i64 0, .int .i64 m, .slice none 0 0] 49)) (fun q => q = bb) := ((Fr.refl (fun q => q = bb) w2).setCell _ _ (.inl rfl)).alloc _
      have y1 : ((w2.setCell ⟨bb, 0, none⟩ (.int .i64 (wrap64 (nf + 1)))).alloc (.cells #[.int .i64 0, .int .i64 0, .int .i64 m, .slice none 0 0] 49)).heap[bb]? = some (.cells #[.int .i64 (wrap64 (nf + 1)), vIf, vE, .slice aX LN.length cX] 65) := (Below.heap_alloc _ _ _ (by rw [z1]; exact hbw)).trans (unhide Y0)
      have p1 : ((w2.setCell ⟨bb, 0, none⟩ (.int .i64 (wrap64 (nf + 1)))).alloc (.cells #[.int .i64 0, .int .i64 0, .int .i64 m, .slice none 0 0] 49)).heap[w2.heap.size]? = some (.cells #[.int .i64 0, .int .i64 0, .int .i64 m, .slice none 0 0] 49) := by
        have h := heap_alloc_new (w2.setCell ⟨bb, 0, none⟩ (.int .i64 (wrap64 (nf + 1)))) (.cells #[.int .i64 0, .int .i64 0, .int .i64 m, .slice none 0 0] 49)
        rwa [z1] at h
      have z2 : w2.heap.size < ((w2.setCell ⟨bb, 0, none⟩ (.int .i64 (wrap64 (nf + 1)))).alloc (.cells #[.int .i64 0, .int .i64 0, .int .i64 m, .slice none 0 0] 49)).heap.size := (Array.getElem?_eq_some_iff.1 p1).1
      have hnP : ¬ own (.slice a nn c) w2.heap.size := fun hq => by have := (World.ownsRow.lt (unhide HO) _ hq).2; omega
      have o1 : ((w2.setCell ⟨bb, 0, none⟩ (.int .i64 (wrap64 (nf + 1)))).alloc (.cells #[.int .i64 0, .int .i64 0, .int .i64 m, .slice none 0 0] 49)).ownsRow B 49 4 (.slice a nn c) nn (reps 0 [.int .i64 0, .int .i64 0, .int .i64 m, .slice none 0 0] ++ (flatP ps).drop (0 * 4)) := by
        rw [Nat.zero_mul, List.drop_zero]
        exact ownsRow_of_block (unhide HO) (fun q hq => hf1.same q (World.ownsRow.lt (unhide HO) q hq).2 (fun e => unhide HNB (e ▸ hq)))
      generalize hw1 : (w2.setCell ⟨bb, 0, none⟩ (.int .i64 (wrap64 (nf + 1)))).alloc (.cells #[.int .i64 0, .int .i64 0, .int .i64 m, .slice none 0 0] 49) = w1 at *
      have HNP := hide hnP
      have O1 := hide o1
      have Y1 := hide y1
      have HF1 := hide hf1
      have P1 := hide p1
      have Z2 := hide z2
      clear o1 y1 hf1 p1 hw1 hm cb zb z1 z2 Y0 hnP
      go_loopw [7] (fun i wr => ∃ j : Nat, j ≤ nn ∧ i = .int .i64 j ∧ Hid (wr.ownsRow B 49 4 (.slice a nn c) nn (reps j [.int .i64 0, .int .i64 0, .int .i64 m, .slice none 0 0] ++ (flatP ps).drop (j * 4))) ∧ Fr (own (.slice a nn c)) w1 wr (own (.slice a nn c))) (fun i _ => nn - (intOf i).toNat)
      case atStart => exact ⟨0, Nat.zero_le _, rfl, O1, Fr.refl _ _⟩
      case round =>
        obtain ⟨j, hj, rfl, hoj, hfj⟩ := hrel
        have hpr := (hfj.same w2.heap.size (unhide Z2) (unhide HNP)).trans (unhide P1)
        have cP := fun i => cell_of_row wr _ i _ 49 (0, 0) hpr
        by_cases hlt : j < nn
        · obtain ⟨g, hg, hgl, hcell, hfz⟩ := row_at (unhide hoj) (by omega)
          subst hg
          obtain ⟨c0, k0⟩ := hcell (j * 4) (by omega)
          have f0 := hfz (j * 4)
          obtain ⟨c1, k1⟩ := hcell (j * 4 + 1) (by omega)
          have f1 := hfz (j * 4 + 1)
          obtain ⟨c2, k2⟩ := hcell (j * 4 + 2) (by omega)
          have f2 := hfz (j * 4 + 2)
          obtain ⟨c3, k3⟩ := hcell (j * 4 + 3) (by omega)
          have f3 := hfz (j * 4 + 3)
          have hon := unit_set4 (unhide hoj) hlt (.int .i64 0) (.int .i64 0) (.int .i64 m) (.slice none 0 0)
          have HN := hide hon
          have HFJ := hide hfj
          have hk0 : (0 : Int) ≤ (j : Int) := by omega
          have hk1 : (j : Int) < (nn : Int) := by omega
          have hgP' : ¬ w2.heap.size = g := fun e => unhide HNP (by rw [e]; rfl)
          clear hoj hon hfj hcell hfz hpr
          go_wp2
          go_roundw
          case rel =>
            refine ⟨j + 1, by omega, by go_num, HN, ?_⟩
            refine ((((unhide HFJ).setCell ⟨g, j * 4, none⟩ (.int .i64 0) (.inl rfl)).setCell ⟨g, j * 4 + 1, none⟩ (.int .i64 0) (.inl rfl)).setCell ⟨g, j * 4 + 2, none⟩ (.int .i64 m) (.inl rfl)).setCell ⟨g, j * 4 + 3, none⟩ (.slice none 0 0) (.inl rfl)
          case measure => simp [intOf]; omega
        · have hjl : j = nn := by omega
          subst hjl
          have hk1 : ¬ (j : Int) < (j : Int) := by omega
          have hoe : wr.ownsRow B 49 4 (.slice a j c) j (reps j [.int .i64 0, .int .i64 0, .int .i64 m, .slice none 0 0]) := by
            have h := unhide hoj
            rw [List.drop_eq_nil_of_le (Nat.le_of_eq (unhide HO).1), List.append_nil] at h
            exact h
          have hpl : w2.heap.size < wr.heap.size := (Array.getElem?_eq_some_iff.1 hpr).1
          have hPX : w2.heap.size ≠ wr.heap.size := by omega
          have hPX' : ¬ wr.heap.size = w2.heap.size := by omega
          have hrB : B ≤ wr.heap.size := by omega
          have C0n := heap_alloc_new wr (.cells #[.slice a j c, .slice none 0 0, .slice none 0 0, .slice none 0 0, .int .i64 m] 111)
          have v0o : ((wr.alloc (.cells #[.slice a j c, .slice none 0 0, .slice none 0 0, .slice none 0 0, .int .i64 m] 111)).alloc (.cells #[.int .i64 0, .int .i64 0, .int .i64 m, .slice none 0 0] 49)).ownsRow B 49 4 (.slice a j c) j (reps j [.int .i64 0, .int .i64 0, .int .i64 m, .slice none 0 0]) := World.ownsRow.alloc (World.ownsRow.alloc hoe _) _
          have v0x : ((wr.alloc (.cells #[.slice a j c, .slice none 0 0, .slice none 0 0, .slice none 0 0, .int .i64 m] 111)).alloc (.cells #[.int .i64 0, .int .i64 0, .int .i64 m, .slice none 0 0] 49)).heap[wr.heap.size]? = some (.cells #[.slice a j c, .slice none 0 0, .slice none 0 0, .slice none 0 0, .int .i64 m] 111) := (Below.heap_alloc _ _ _ (by simp)).trans C0n
          have v0p : ((wr.alloc (.cells #[.slice a j c, .slice none 0 0, .slice none 0 0, .slice none 0 0, .int .i64 m] 111)).alloc (.cells #[.int .i64 0, .int .i64 0, .int .i64 m, .slice none 0 0] 49)).heap[w2.heap.size]? = some (.cells #[.int .i64 0, .int .i64 0, .int .i64 m, .slice none 0 0] 49) := (Below.heap_alloc _ _ _ (by simp; omega)).trans ((Below.heap_alloc _ _ _ hpl).trans hpr)
          have v0n : ((wr.alloc (.cells #[.slice a j c, .slice none 0 0, .slice none 0 0, .slice none 0 0, .int .i64 m] 111)).alloc (.cells #[.int .i64 0, .int .i64 0, .int .i64 m, .slice none 0 0] 49)).heap[wr.heap.size + 1]? = some (.cells #[.int .i64 0, .int .i64 0, .int .i64 m, .slice none 0 0] 49) := by
            have h := heap_alloc_new (wr.alloc (.cells #[.slice a j c, .slice none 0 0, .slice none 0 0, .slice none 0 0, .int .i64 m] 111)) (.cells #[.int .i64 0, .int .i64 0, .int .i64 m, .slice none 0 0] 49)
            rwa [show (wr.alloc (.cells #[.slice a j c, .slice none 0 0, .slice none 0 0, .slice none 0 0, .int .i64 m] 111)).heap.size = wr.heap.size + 1 by simp] at h
          have hB0 : B ≤ ((wr.alloc (.cells #[.slice a j c, .slice none 0 0, .slice none 0 0, .slice none 0 0, .int .i64 m] 111)).alloc (.cells #[.int .i64 0, .int .i64 0, .int .i64 m, .slice none 0 0] 49)).heap.size := by simp; omega
          have V0O := hide v0o
          have V0X := hide v0x
          have V0P := hide v0p
          have V0N := hide v0n
          have HFJ := hide hfj
          clear hoj hoe hfj C0n v0o v0x v0n v0p hpr
          go_wp2_with (at_builtin; first | (refine wpList_both elemIn (by omega) (by omega) (B := B) (n := j) (m := 1) (xs := reps j [.int .i64 0, .int .i64 0, .int .i64 m, .slice none 0 0]) (news := [.int .i64 0, .int .i64 0, .int .i64 m, .slice none 0 0]) rfl (.tmp 49) (.tmp 51) rfl (ad := ⟨wr.heap.size + 1, 0, none⟩) (cap := 1) rfl rfl (unhide V0O) rfl (World.news_of_block (unhide V0N)) (by simp [Value.oneCell']) (by omega) (by omega) hB0 ?_; intro va wa sha ra da; obtain ⟨aa, ca, rfl⟩ := sha; have ra' : wa.ownsRow B 49 4 (.slice aa (j + 1) ca) (j + 1) (reps (j + 1) [.int .i64 0, .int .i64 0, .int .i64 m, .slice none 0 0]) := (by rw [← reps_append]; exact ra); have xa := (both_same (unhide V0O) da wr.heap.size (Array.getElem?_eq_some_iff.1 (unhide V0X)).1 (own_ty (unhide V0O) (unhide V0X) (by decide))).trans (unhide V0X); have kca := fun i => cell_of_row wa _ i _ 111 (0, 0) xa; have kza := fun i => frozen_rowE xa i; have pa := (both_same (unhide V0O) da w2.heap.size (Array.getElem?_eq_some_iff.1 (unhide V0P)).1 (unhide HNP)).trans (unhide V0P); have kpa := fun i => cell_of_row wa _ i _ 49 (0, 0) pa; have K1 := hide (keep_oneU (k := 1) (us := [.int .i64 0, .int .i64 0, .int .i64 m, .slice none 0 0]) (by simp) (by decide) (by omega) (unhide V0O) (unhide V0X) ra' da); have PP := hide pa; clear ra ra' da xa pa V0N; have V1O := hide (show ((wa.setCell ⟨wr.heap.size, 1, none⟩ (.slice aa (j + 1) ca)).alloc (.cells #[.int .i64 0, .int .i64 0, .int .i64 m, .slice none 0 0, .int .i64 0, .int .i64 0, .int .i64 m, .slice none 0 0] 49)).ownsRow B 49 4 (.slice a j c) j (reps j [.int .i64 0, .int .i64 0, .int .i64 m, .slice none 0 0]) from World.ownsRow.alloc (unhide K1).1 _); have V1X := hide (show ((wa.setCell ⟨wr.heap.size, 1, none⟩ (.slice aa (j + 1) ca)).alloc (.cells #[.int .i64 0, .int .i64 0, .int .i64 m, .slice none 0 0, .int .i64 0, .int .i64 0, .int .i64 m, .slice none 0 0] 49)).heap[wr.heap.size]? = some (.cells #[.slice a j c, .slice aa (j + 1) ca, .slice none 0 0, .slice none 0 0, .int .i64 m] 111) from (Below.heap_alloc _ _ _ (Array.getElem?_eq_some_iff.1 (unhide K1).2.1).1).trans (unhide K1).2.1); have V1P := hide (show ((wa.setCell ⟨wr.heap.size, 1, none⟩ (.slice aa (j + 1) ca)).alloc (.cells #[.int .i64 0, .int .i64 0, .int .i64 m, .slice none 0 0, .int .i64 0, .int .i64 0, .int .i64 m, .slice none 0 0] 49)).heap[w2.heap.size]? = some (.cells #[.int .i64 0, .int .i64 0, .int .i64 m, .slice none 0 0] 49) from (Below.heap_alloc _ _ _ (by simp [World.setCell]; exact (Array.getElem?_eq_some_iff.1 (unhide PP)).1)).trans ((Below.heap_setCell _ _ _ _ hPX).trans (unhide PP))); have V1N := hide (show ((wa.setCell ⟨wr.heap.size, 1, none⟩ (.slice aa (j + 1) ca)).alloc (.cells #[.int .i64 0, .int .i64 0, .int .i64 m, .slice none 0 0, .int .i64 0, .int .i64 0, .int .i64 m, .slice none 0 0] 49)).heap[wa.heap.size]? = some (.cells #[.int .i64 0, .int .i64 0, .int .i64 m, .slice none 0 0, .int .i64 0, .int .i64 0, .int .i64 m, .slice none 0 0] 49) from (by have h := heap_alloc_new (wa.setCell ⟨wr.heap.size, 1, none⟩ (.slice aa (j + 1) ca)) (.cells #[.int .i64 0, .int .i64 0, .int .i64 m, .slice none 0 0, .int .i64 0, .int .i64 0, .int .i64 m, .slice none 0 0] 49); rwa [show (wa.setCell ⟨wr.heap.size, 1, none⟩ (.slice aa (j + 1) ca)).heap.size = wa.heap.size by simp [World.setCell]] at h)); have hB1 : B ≤ ((wa.setCell ⟨wr.heap.size, 1, none⟩ (.slice aa (j + 1) ca)).alloc (.cells #[.int .i64 0, .int .i64 0, .int .i64 m, .slice none 0 0, .int .i64 0, .int .i64 0, .int .i64 m, .slice none 0 0] 49)).heap.size := (by have h := (unhide K1).2.2.2.2.1.size; have h0 := hB0; simp at h h0 ⊢; omega); clear PP) | (refine wpList_both elemIn (by omega) (by omega) (B := B) (n := j) (m := 2) (xs := reps j [.int .i64 0, .int .i64 0, .int .i64 m, .slice none 0 0]) (news := [.int .i64 0, .int .i64 0, .int .i64 m, .slice none 0 0, .int .i64 0, .int .i64 0, .int .i64 m, .slice none 0 0]) rfl (.tmp 54) (.tmp 57) rfl (ad := ⟨wa.heap.size, 0, none⟩) (cap := 2) rfl rfl (unhide V1O) rfl (World.news_of_block (unhide V1N)) (by simp [Value.oneCell']) (by omega) (by omega) hB1 ?_; intro va wb sha ra da; obtain ⟨ab, cb, rfl⟩ := sha; have ra' : wb.ownsRow B 49 4 (.slice ab (j + 2) cb) (j + 2) (reps (j + 2) [.int .i64 0, .int .i64 0, .int .i64 m, .slice none 0 0]) := (by rw [← reps_append]; exact ra); have xa := (both_same (unhide V1O) da wr.heap.size (Array.getElem?_eq_some_iff.1 (unhide V1X)).1 (own_ty (unhide V1O) (unhide V1X) (by decide))).trans (unhide V1X); have kcb := fun i => cell_of_row wb _ i _ 111 (0, 0) xa; have kzb := fun i => frozen_rowE xa i; have pa := (both_same (unhide V1O) da w2.heap.size (Array.getElem?_eq_some_iff.1 (unhide V1P)).1 (unhide HNP)).trans (unhide V1P); have kpb := fun i => cell_of_row wb _ i _ 49 (0, 0) pa; have K2 := hide (keep_oneU (k := 2) (us := [.int .i64 0, .int .i64 0, .int .i64 m, .slice none 0 0]) (by simp) (by decide) (by omega) (unhide V1O) (unhide V1X) ra' da); have PP := hide pa; clear ra ra' da xa pa V1N; have V2O := hide (show ((wb.setCell ⟨wr.heap.size, 2, none⟩ (.slice ab (j + 2) cb)).alloc (.cells #[.int .i64 0, .int .i64 0, .int .i64 m, .slice none 0 0, .int .i64 0, .int .i64 0, .int .i64 m, .slice none 0 0, .int .i64 0, .int .i64 0, .int .i64 m, .slice none 0 0] 49)).ownsRow B 49 4 (.slice a j c) j (reps j [.int .i64 0, .int .i64 0, .int .i64 m, .slice none 0 0]) from World.ownsRow.alloc (unhide K2).1 _); have V2X := hide (show ((wb.setCell ⟨wr.heap.size, 2, none⟩ (.slice ab (j + 2) cb)).alloc (.cells #[.int .i64 0, .int .i64 0, .int .i64 m, .slice none 0 0, .int .i64 0, .int .i64 0, .int .i64 m, .slice none 0 0, .int .i64 0, .int .i64 0, .int .i64 m, .slice none 0 0] 49)).heap[wr.heap.size]? = some (.cells #[.slice a j c, .slice aa (j + 1) ca, .slice ab (j + 2) cb, .slice none 0 0, .int .i64 m] 111) from (Below.heap_alloc _ _ _ (Array.getElem?_eq_some_iff.1 (unhide K2).2.1).1).trans (unhide K2).2.1); have V2P := hide (show ((wb.setCell ⟨wr.heap.size, 2, none⟩ (.slice ab (j + 2) cb)).alloc (.cells #[.int .i64 0, .int .i64 0, .int .i64 m, .slice none 0 0, .int .i64 0, .int .i64 0, .int .i64 m, .slice none 0 0, .int .i64 0, .int .i64 0, .int .i64 m, .slice none 0 0] 49)).heap[w2.heap.size]? = some (.cells #[.int .i64 0, .int .i64 0, .int .i64 m, .slice none 0 0] 49) from (Below.heap_alloc _ _ _ (by simp [World.setCell]; exact (Array.getElem?_eq_some_iff.1 (unhide PP)).1)).trans ((Below.heap_setCell _ _ _ _ hPX).trans (unhide PP))); have V2N := hide (show ((wb.setCell ⟨wr.heap.size, 2, none⟩ (.slice ab (j + 2) cb)).alloc (.cells #[.int .i64 0, .int .i64 0, .int .i64 m, .slice none 0 0, .int .i64 0, .int .i64 0, .int .i64 m, .slice none 0 0, .int .i64 0, .int .i64 0, .int .i64 m, .slice none 0 0] 49)).heap[wb.heap.size]? = some (.cells #[.int .i64 0, .int .i64 0, .int .i64 m, .slice none 0 0, .int .i64 0, .int .i64 0, .int .i64 m, .slice none 0 0, .int .i64 0, .int .i64 0, .int .i64 m, .slice none 0 0] 49) from (by have h := heap_alloc_new (wb.setCell ⟨wr.heap.size, 2, none⟩ (.slice ab (j + 2) cb)) (.cells #[.int .i64 0, .int .i64 0, .int .i64 m, .slice none 0 0, .int .i64 0, .int .i64 0, .int .i64 m, .slice none 0 0, .int .i64 0, .int .i64 0, .int .i64 m, .slice none 0 0] 49); rwa [show (wb.setCell ⟨wr.heap.size, 2, none⟩ (.slice ab (j + 2) cb)).heap.size = wb.heap.size by simp [World.setCell]] at h)); have hB2 : B ≤ ((wb.setCell ⟨wr.heap.size, 2, none⟩ (.slice ab (j + 2) cb)).alloc (.cells #[.int .i64 0, .int .i64 0, .int .i64 m, .slice none 0 0, .int .i64 0, .int .i64 0, .int .i64 m, .slice none 0 0, .int .i64 0, .int .i64 0, .int .i64 m, .slice none 0 0] 49)).heap.size := (by have h := (unhide K2).2.2.2.2.1.size; have h0 := hB1; simp at h h0 ⊢; omega); clear PP) | (refine wpList_both elemIn (by omega) (by omega) (B := B) (n := j) (m := 3) (xs := reps j [.int .i64 0, .int .i64 0, .int .i64 m, .slice none 0 0]) (news := [.int .i64 0, .int .i64 0, .int .i64 m, .slice none 0 0, .int .i64 0, .int .i64 0, .int .i64 m, .slice none 0 0, .int .i64 0, .int .i64 0, .int .i64 m, .slice none 0 0]) rfl (.tmp 60) (.tmp 64) rfl (ad := ⟨wb.heap.size, 0, none⟩) (cap := 3) rfl rfl (unhide V2O) rfl (World.news_of_block (unhide V2N)) (by simp [Value.oneCell']) (by omega) (by omega) hB2 ?_; intro va wc sha ra da; obtain ⟨ac, cc, rfl⟩ := sha; have ra' : wc.ownsRow B 49 4 (.slice ac (j + 3) cc) (j + 3) (reps (j + 3) [.int .i64 0, .int .i64 0, .int .i64 m, .slice none 0 0]) := (by rw [← reps_append]; exact ra); have xa := (both_same (unhide V2O) da wr.heap.size (Array.getElem?_eq_some_iff.1 (unhide V2X)).1 (own_ty (unhide V2O) (unhide V2X) (by decide))).trans (unhide V2X); have kcc := fun i => cell_of_row wc _ i _ 111 (0, 0) xa; have kzc := fun i => frozen_rowE xa i; have pa := (both_same (unhide V2O) da w2.heap.size (Array.getElem?_eq_some_iff.1 (unhide V2P)).1 (unhide HNP)).trans (unhide V2P); have kpc := fun i => cell_of_row wc _ i _ 49 (0, 0) pa; have K3 := hide (keep_oneU (k := 3) (us := [.int .i64 0, .int .i64 0, .int .i64 m, .slice none 0 0]) (by simp) (by decide) (by omega) (unhide V2O) (unhide V2X) ra' da); have PP := hide pa; clear ra ra' da xa pa V2N; clear PP))
          have hXB : w2.heap.size ≤ wr.heap.size := by omega
          have f1 : Fr (fun q => own (.slice a j c) q ∨ q = wr.heap.size) w1 (wc.setCell ⟨wr.heap.size, 3, none⟩ (.slice ac (j + 3) cc)) (fun q => own (.slice a j c) q ∨ q = wr.heap.size) :=
            ((unhide HFJ).widen (fun _ h => .inl h)).trans ((((Fr.refl _ wr).alloc _).alloc _).trans ((unhide K1).2.2.2.2.1.trans (((Fr.refl _ _).alloc _).trans ((unhide K2).2.2.2.2.1.trans (((Fr.refl _ _).alloc _).trans (unhide K3).2.2.2.2.1)))))
          have hbl : bb < w1.heap.size := (Array.getElem?_eq_some_iff.1 (unhide Y1)).1
          have hbd : (wc.setCell ⟨wr.heap.size, 3, none⟩ (.slice ac (j + 3) cc)).heap[bb]? = some (.cells #[.int .i64 (wrap64 (nf + 1)), vIf, vE, .slice aX LN.length cX] 65) := (f1.same bb hbl (fun h => by
            rcases h with h | h
            · exact unhide HNB h
            · omega)).trans (unhide Y1)
          have fT : Fr (fun q => q = bb ∨ own (.slice a j c) q ∨ w2.heap.size ≤ q) w2 (wc.setCell ⟨wr.heap.size, 3, none⟩ (.slice ac (j + 3) cc)) (fun q => q = bb ∨ own (.slice a j c) q ∨ w2.heap.size ≤ q) :=
            ((unhide HF1).widen (fun _ h => .inl h)).trans (f1.widen (fun q h => by
              rcases h with h | h
              · exact .inr (.inl h)
              · exact .inr (.inr (by omega))))
          have bk := (unhide HB).mid fT (fun q hq h => by
            rcases h with h | h | h
            · exact .inl h
            · obtain ⟨cur, hcur⟩ := row_d (unhide HO) h
              exact .inr ⟨unhide HK q h, own_ty (unhide HB).bk.rI hcur (by decide), own_ty (unhide HB).bk.rE hcur (by decide), own_ty (unhide HB).bk.rN hcur (by decide)⟩
            · omega) hbd
          have m1 := (unhide K3).2.2.2.1 _ 1 (by omega) (((unhide K2).2.2.2.1 _ 1 (by omega) ((unhide K1).2.2.1.fr ((Fr.refl _ _).alloc _))).fr ((Fr.refl _ _).alloc _))
          have m2 := (unhide K3).2.2.2.1 _ 2 (by omega) ((unhide K2).2.2.1.fr ((Fr.refl _ _).alloc _))
          have m3 := (unhide K3).2.2.1
          have od := (unhide K3).1
          have xd := (unhide K3).2.1
          have g1 := (unhide K1).2.2.2.2.2
          have g2 := (unhide K2).2.2.2.2.2
          have g3 := (unhide K3).2.2.2.2.2
          have s1 : w2.heap.size ≤ ((wr.alloc (.cells #[.slice a j c, .slice none 0 0, .slice none 0 0, .slice none 0 0, .int .i64 m] 111)).alloc (.cells #[.int .i64 0, .int .i64 0, .int .i64 m, .slice none 0 0] 49)).heap.size := by simp; omega
          have s2 := Nat.le_trans (Nat.le_trans s1 (unhide K1).2.2.2.2.1.size) (Fr.size ((Fr.refl (fun _ => False) _).alloc (.cells #[.int .i64 0, .int .i64 0, .int .i64 m, .slice none 0 0, .int .i64 0, .int .i64 0, .int .i64 m, .slice none 0 0] 49)))
          have s3 := Nat.le_trans (Nat.le_trans s2 (unhide K2).2.2.2.2.1.size) (Fr.size ((Fr.refl (fun _ => False) _).alloc (.cells #[.int .i64 0, .int .i64 0, .int .i64 m, .slice none 0 0, .int .i64 0, .int .i64 0, .int .i64 m, .slice none 0 0, .int .i64 0, .int .i64 0, .int .i64 m, .slice none 0 0] 49)))
          have fresh : ∀ q, (own (.slice a j c) q ∨ own (.slice aa (j + 1) ca) q ∨ own (.slice ab (j + 2) cb) q ∨ own (.slice ac (j + 3) cc) q) → own (.slice a j c) q ∨ w2.heap.size ≤ q := fun q hq => by
            rcases hq with h | h | h | h
            · exact .inl h
            · exact (g1 q h).imp id (fun h => Nat.le_trans s1 h)
            · exact (g2 q h).imp id (fun h => Nat.le_trans s2 h)
            · exact (g3 q h).imp id (fun h => Nat.le_trans s3 h)
          have hXI : ¬ own (.slice aX LN.length cX) wr.heap.size := fun hq => by have := (World.ownsRow.lt (unhide HB).bk.rN _ hq).2; omega
          have hwd : B ≤ (wc.setCell ⟨wr.heap.size, 3, none⟩ (.slice ac (j + 3) cc)).heap.size := Nat.le_trans hBw fT.size
          clear g1 g2 g3 s1 s2 s3 f1 hbd hbl K1 K2 K3 V0O V0X V0P V1O V1X V1P V2O V2X V2P HB HO HK HF1 HFJ Y1 O1 hB0 hB1 hB2 kca kza kpa kcb kzb kpb kcc kzc kpc P1 Z2 cP hpl hPX hPX'
          generalize (wc.setCell ⟨wr.heap.size, 3, none⟩ (.slice ac (j + 3) cc)) = wd at *
          have ty : ∀ q, (own (.slice a j c) q ∨ own (.slice aa (j + 1) ca) q ∨ own (.slice ab (j + 2) cb) q ∨ own (.slice ac (j + 3) cc) q) → ∃ cur, wd.heap[q]? = some (.cells cur 49 (0, 0)) := fun q hq => by
            rcases hq with h | h | h | h
            · exact row_d od h
            · exact m1.ty od h
            · exact m2.ty od h
            · exact m3.ty od h
          have full : FullN wd (.slice a j c) m ∧ FullN wd (.slice aa (j + 1) ca) m ∧ FullN wd (.slice ab (j + 2) cb) m ∧ FullN wd (.slice ac (j + 3) cc) m := ⟨(FullU.row (by simp) od (by omega)).toN, m1.1.toN, m2.1.toN, m3.1.toN⟩
          have cbb := fun i => cell_of_row wd bb i _ 65 (0, 0) bk.bk.blk
          have FT := hide fT
          have BK := hide bk
          have TY := hide ty
          have FULL := hide full
          have FRESH := hide fresh
          have XD := hide xd
          clear fT bk ty full fresh m1 m2 m3 od
          have hE5 : ∀ o, (wd.alloc o).drew.heap[wr.heap.size]? = some (.cells #[.slice a j c, .slice aa (j + 1) ca, .slice ab (j + 2) cb, .slice ac (j + 3) cc, .int .i64 m] 111 (0, 0)) := fun o => (Below.heap_alloc wd o _ (Array.getElem?_eq_some_iff.1 (unhide XD)).1).trans (unhide XD)
          have cbq : ∀ o, (wd.alloc o).drew.cell? ⟨bb, 3, none⟩ = some (.slice aX LN.length cX) := fun o => by
            have h : (wd.alloc o).drew.heap[bb]? = _ := (Below.heap_alloc wd o _ (Array.getElem?_eq_some_iff.1 (unhide BK).bk.blk).1).trans (unhide BK).bk.blk
            exact cell_of_row _ _ 3 _ 65 (0, 0) h
          clear xd
          have hXb : wr.heap.size ≠ bb := fun e => by have h := unhide XD; rw [e] at h; exact absurd (ty_one h (unhide BK).bk.blk) (by decide)
          have fin : ∀ v' w3, w3.ownsRow B 111 5 v' (LN.length + 1) (flat5 LN ++ [.slice a j c, .slice aa (j + 1) ca, .slice ab (j + 2) cb, .slice ac (j + 3) cc, .int .i64 m]) → Fr (own (.slice aX LN.length cX)) (wd.alloc (.cells #[.slice a j c, .slice aa (j + 1) ca, .slice ab (j + 2) cb, .slice ac (j + 3) cc, .int .i64 m] 111)).drew w3 (own v') → KeptN w2 (w3.setCell ⟨bb, 3, none⟩ v') B bb (wrap64 (nf + 1)) (vIf) (vE) (.slice aX LN.length cX) LIf LE LN Kf (.slice a j c) := fun v' w3 o3 f3 => by
            have fa : Fr (fun _ => False) wd (wd.alloc (.cells #[.slice a j c, .slice aa (j + 1) ca, .slice ab (j + 2) cb, .slice ac (j + 3) cc, .int .i64 m] 111)).drew (fun _ => False) := ((Fr.refl _ _).alloc _).drew
            have hall : ∀ q, q < wd.heap.size → (wd.alloc (.cells #[.slice a j c, .slice aa (j + 1) ca, .slice ab (j + 2) cb, .slice ac (j + 3) cc, .int .i64 m] 111)).drew.heap[q]? = wd.heap[q]? := fun q hq => fa.same q hq (fun h => h)
            have full := unhide FULL
            have hb := ((unhide BK).fr fa).addN (e := ⟨.slice a j c, .slice aa (j + 1) ca, .slice ab (j + 2) cb, .slice ac (j + 3) cc, m⟩) (K2 := fun q => (own (.slice a j c) q ∨ own (.slice aa (j + 1) ca) q ∨ own (.slice ab (j + 2) cb) q ∨ own (.slice ac (j + 3) cc) q)) ⟨full.1.fr fa, full.2.1.fr fa, full.2.2.1.fr fa, full.2.2.2.fr fa⟩ ⟨own_lies.mono (fun _ h => .inl h), own_lies.mono (fun _ h => .inr (.inl h)), own_lies.mono (fun _ h => .inr (.inr (.inl h))), own_lies.mono (fun _ h => .inr (.inr (.inr h)))⟩ (fun q hq => by
              obtain ⟨cur, hcur⟩ := unhide TY q hq
              exact ⟨cur, (hall q (Array.getElem?_eq_some_iff.1 hcur).1).trans hcur⟩) o3 f3
            refine ⟨v', _, _, hb, fun q hq => ?_, fun q hq => ?_, ?_⟩
            · rcases hq with h | h
              · exact .inl h
              · exact .inr (unhide FRESH q h)
            · by_cases hlt : q < w2.heap.size
              · exact .inl (f3.old q (Nat.lt_of_lt_of_le hlt (Nat.le_trans (unhide FT).size fa.size)) hq)
              · exact .inr (by omega)
            · refine Fr.setCell ?_ _ _ (.inl (.inl rfl))
              refine ((unhide FT).widen (fun q h => ?_)).trans ((fa.widen (fun q h => h.elim)).trans (f3.widen (fun q h => .inr (.inl h))))
              rcases h with h | h | h
              · exact .inl h
              · exact .inr (.inr (.inl h))
              · exact .inr (.inr (.inr h))
          refine wp_region_held_drew (S := fun w' => w'.heap[wr.heap.size]? = some (.cells #[.slice a j c, .slice aa (j + 1) ca, .slice ab (j + 2) cb, .slice ac (j + 3) cc, .int .i64 m] 111 (0, 0))) (by kernel_rfl) ?_ (fun hHeld => ?_)
          · exact unhide XD
          refine wpAnyH_take (i := 0) (oi := { dst := some 67, op := Op.move (Operand.tmp 0), type := 60, pos := "law.go:132", after := #[], guard := none }) (v := ?_) rfl (by kernel_rfl) (by kernel_rfl) (by kernel_rfl) (fun _ _ _ h => h) (Or.inl ⟨by rfl, ?_⟩) (by assumption) ?_
          rotate_left
          · intro w hSw; (try dsimp only at hSw); go_simp; try with_reducible rfl
          simp only [Act.put, List.setIfInBounds_toArray, List.set_cons_zero, List.set_cons_succ]
          refine wpAnyH_take (i := 1) (oi := { dst := some 68, op := Op.move (Operand.tmp 0), type := 60, pos := "law.go:132", after := #[], guard := none }) (v := ?_) rfl (by kernel_rfl) (by kernel_rfl) (by kernel_rfl) (fun _ _ _ h => h) (Or.inl ⟨by rfl, ?_⟩) (by assumption) ?_
          rotate_left
          · intro w hSw; (try dsimp only at hSw); go_simp; try with_reducible rfl
          simp only [Act.put, List.setIfInBounds_toArray, List.set_cons_zero, List.set_cons_succ]
          refine wpAnyH_take (i := 2) (oi := { dst := some 69, op := Op.nilCheck (Operand.tmp 68), type := 0, pos := "law.go:132", after := #[{ on := 1, ground := Ground.data }], guard := none }) (v := ?_) rfl (by kernel_rfl) (by kernel_rfl) (by kernel_rfl) (fun _ _ _ h => h) (Or.inl ⟨by rfl, ?_⟩) (by assumption) ?_
          rotate_left
          · intro w hSw; (try dsimp only at hSw); go_simp; try with_reducible rfl
          simp only [Act.put, List.setIfInBounds_toArray, List.set_cons_zero, List.set_cons_succ]
          refine wpAnyH_take (i := 3) (oi := { dst := some 70, op := Op.fieldAddr 65 (Operand.tmp 69) 3, type := 0, pos := "law.go:132", after := #[{ on := 2, ground := Ground.data }], guard := none }) (v := ?_) rfl (by kernel_rfl) (by kernel_rfl) (by kernel_rfl) (fun _ _ _ h => h) (Or.inl ⟨by rfl, ?_⟩) (by assumption) ?_
          rotate_left
          · intro w hSw; (try dsimp only at hSw); go_simp; try with_reducible rfl
          simp only [Act.put, List.setIfInBounds_toArray, List.set_cons_zero, List.set_cons_succ]
          refine wpAnyH_take (i := 5) (oi := { dst := some 72, op := Op.load 111 (Operand.tmp 8), type := 111, pos := "law.go:132", after := #[], guard := none }) (v := ?_) rfl (by kernel_rfl) (by kernel_rfl) (by kernel_rfl) (fun _ _ _ h => h) (Or.inl ⟨by rfl, ?_⟩) (by assumption) ?_
          rotate_left
          · intro w hSw; have c5 := fun j => cell_of_row w _ j _ 111 (0, 0) hSw; go_simp; try with_reducible rfl
          simp only [Act.put, List.setIfInBounds_toArray, List.set_cons_zero, List.set_cons_succ]
          refine wpAnyH_ready (rs := [4, 6]) (by kernel_rfl) (by simp) ?_
          refine AllReadyH.cons (o := { dst := some 71, op := Op.load 63 (Operand.tmp 70), type := 63, pos := "law.go:132", after := #[{ on := 3, ground := Ground.data }], guard := none }) rfl (fun K' hK' => ?_) (AllReadyH.cons (o := { dst := some 73, op := Op.buildSlice 63 1 #[(0, Operand.tmp 72)], type := 63, pos := "law.go:132", after := #[{ on := 5, ground := Ground.data }], guard := none }) rfl (fun K' hK' => ?_) AllReadyH.nil)
          · go_simp
            refine hK'.out _ _ ?_ (fun hHeld => ?_)
            · exact unhide XD
            clear hK' K'
            try simp only [Act.put, List.setIfInBounds_toArray, List.set_cons_zero, List.set_cons_succ]
            refine wpAnyH_ready (rs := [6]) (by kernel_rfl) (by simp) ?_
            refine AllReadyH.cons (o := { dst := some 73, op := Op.buildSlice 63 1 #[(0, Operand.tmp 72)], type := 63, pos := "law.go:132", after := #[{ on := 5, ground := Ground.data }], guard := none }) rfl (fun K' hK' => ?_) AllReadyH.nil
            go_simp
            refine hK'.out _ _ ?_ (fun hHeld => ?_)
            · exact hE5 _
            clear hK' K'
            try simp only [Act.put, List.setIfInBounds_toArray, List.set_cons_zero, List.set_cons_succ]
            refine wpAnyH_ready (rs := [7]) (by kernel_rfl) (by simp) ?_
            refine AllReadyH.cons (o := { dst := some 74, op := Op.call { callee := Callee.builtin Builtin.append, args := #[Operand.tmp 71, Operand.tmp 73], argTypes := #[63, 63] }, type := 63, pos := "law.go:132", after := #[{ on := 4, ground := Ground.data }, { on := 6, ground := Ground.data }], guard := none }) rfl (fun K' hK' => ?_) AllReadyH.nil
            refine step_grown (d := 74) rfl elem111 (by decide) (by decide) (v := (.slice aX LN.length cX)) (n := LN.length) (m := 1) (xs := flat5 LN) (news := [.slice a j c, .slice aa (j + 1) ca, .slice ab (j + 2) cb, .slice ac (j + 3) cc, .int .i64 m]) (B := B) (ad := ⟨wd.heap.size, 0, none⟩) (cap := 1) rfl (.tmp 71) (.tmp 73) rfl rfl rfl ((unhide BK).fr ((Fr.refl _ _).alloc (.cells #[.slice a j c, .slice aa (j + 1) ca, .slice ab (j + 2) cb, .slice ac (j + 3) cc, .int .i64 m] 111)).drew).bk.rN rfl (World.news_of_block (heap_alloc_new wd _)) (by simp [Value.oneCell']) (by omega) (by omega) (by simp; omega) ?_
            intro v3 w3 o3 f3 sh3
            obtain ⟨av, cv, rfl⟩ := sh3
            have pr : w3.heap[bb]? = some (.cells #[.int .i64 (wrap64 (nf + 1)), vIf, vE, .slice aX LN.length cX] 65) := by
              have hb2 := ((unhide BK).fr ((Fr.refl _ _).alloc (.cells #[.slice a j c, .slice aa (j + 1) ca, .slice ab (j + 2) cb, .slice ac (j + 3) cc, .int .i64 m] 111)).drew)
              exact (f3.same bb (Array.getElem?_eq_some_iff.1 hb2.bk.blk).1 (own_ty hb2.bk.rN hb2.bk.blk (by decide))).trans hb2.bk.blk
            have pc := fun j => cell_of_row w3 bb j _ 65 (0, 0) pr
            have pz := fun j => frozen_rowE pr j
            have gg : w3.heap[wr.heap.size]? = some (.cells #[.slice a j c, .slice aa (j + 1) ca, .slice ab (j + 2) cb, .slice ac (j + 3) cc, .int .i64 m] 111 (0, 0)) := (f3.same _ (Array.getElem?_eq_some_iff.1 (hE5 _)).1 hXI).trans (hE5 (.cells #[.slice a j c, .slice aa (j + 1) ca, .slice ab (j + 2) cb, .slice ac (j + 3) cc, .int .i64 m] 111))
            have O3 := hide o3
            have F3 := hide f3
            clear o3 f3 pr
            refine hK'.out _ _ gg (fun hHeld => ?_)
            clear hK' K'
            simp only [List.setIfInBounds_toArray, List.set_cons_zero, List.set_cons_succ]
            refine wpAnyH_take (i := 8) (oi := { dst := some 75, op := Op.nilCheck (Operand.tmp 67), type := 0, pos := "law.go:132", after := #[{ on := 0, ground := Ground.data }, { on := 0, ground := Ground.phase }, { on := 1, ground := Ground.phase }, { on := 2, ground := Ground.phase }, { on := 3, ground := Ground.phase }, { on := 4, ground := Ground.phase }, { on := 5, ground := Ground.phase }, { on := 6, ground := Ground.phase }, { on := 7, ground := Ground.phase }], guard := none }) (v := ?_) rfl (by kernel_rfl) (by kernel_rfl) (by kernel_rfl) (fun _ _ _ h => h) (Or.inl ⟨by rfl, ?_⟩) (by assumption) ?_
            rotate_left
            · intro w hSw; (try dsimp only at hSw); go_simp; try with_reducible rfl
            simp only [Act.put, List.setIfInBounds_toArray, List.set_cons_zero, List.set_cons_succ]
            refine wpAnyH_take (i := 9) (oi := { dst := some 76, op := Op.fieldAddr 65 (Operand.tmp 75) 3, type := 0, pos := "law.go:132", after := #[{ on := 8, ground := Ground.data }, { on := 0, ground := Ground.phase }, { on := 1, ground := Ground.phase }, { on := 2, ground := Ground.phase }, { on := 3, ground := Ground.phase }, { on := 4, ground := Ground.phase }, { on := 5, ground := Ground.phase }, { on := 6, ground := Ground.phase }, { on := 7, ground := Ground.phase }], guard := none }) (v := ?_) rfl (by kernel_rfl) (by kernel_rfl) (by kernel_rfl) (fun _ _ _ h => h) (Or.inl ⟨by rfl, ?_⟩) (by assumption) ?_
            rotate_left
            · intro w hSw; (try dsimp only at hSw); go_simp; try with_reducible rfl
            simp only [Act.put, List.setIfInBounds_toArray, List.set_cons_zero, List.set_cons_succ]
            refine wpAnyH_ready (rs := [10]) (by kernel_rfl) (by simp) ?_
            refine AllReadyH.cons (o := { dst := none, op := Op.store 63 (Operand.tmp 76) (Operand.tmp 74), type := 0, pos := "law.go:132", after := #[{ on := 9, ground := Ground.data }, { on := 7, ground := Ground.data }, { on := 7, ground := Ground.chain }, { on := 0, ground := Ground.phase }, { on := 1, ground := Ground.phase }, { on := 2, ground := Ground.phase }, { on := 3, ground := Ground.phase }, { on := 4, ground := Ground.phase }, { on := 5, ground := Ground.phase }, { on := 6, ground := Ground.phase }, { on := 7, ground := Ground.phase }], guard := none }) rfl (fun K' hK' => ?_) AllReadyH.nil
            go_simp
            refine hK'.out _ _ ?_ (fun hHeld => ?_)
            · exact (Below.heap_setCell _ _ _ _ hXb).trans gg
            clear hK' K'
            try simp only [Act.put, List.setIfInBounds_toArray, List.set_cons_zero, List.set_cons_succ]
            refine wpAnyH_done (by kernel_rfl) ?_ _
            go_wp2
            go_end0
            exact ⟨rfl, unhide CLOSE _ (fin _ w3 (unhide O3) (unhide F3))⟩
          · go_simp
            refine hK'.out _ _ ?_ (fun hHeld => ?_)
            · exact hE5 _
            clear hK' K'
            try simp only [Act.put, List.setIfInBounds_toArray, List.set_cons_zero, List.set_cons_succ]
            refine wpAnyH_ready (rs := [4]) (by kernel_rfl) (by simp) ?_
            refine AllReadyH.cons (o := { dst := some 71, op := Op.load 63 (Operand.tmp 70), type := 63, pos := "law.go:132", after := #[{ on := 3, ground := Ground.data }], guard := none }) rfl (fun K' hK' => ?_) AllReadyH.nil
            go_simp
            refine hK'.out _ _ ?_ (fun hHeld => ?_)
            · exact hE5 _
            clear hK' K'
            try simp only [Act.put, List.setIfInBounds_toArray, List.set_cons_zero, List.set_cons_succ]
            refine wpAnyH_ready (rs := [7]) (by kernel_rfl) (by simp) ?_
            refine AllReadyH.cons (o := { dst := some 74, op := Op.call { callee := Callee.builtin Builtin.append, args := #[Operand.tmp 71, Operand.tmp 73], argTypes := #[63, 63] }, type := 63, pos := "law.go:132", after := #[{ on := 4, ground := Ground.data }, { on := 6, ground := Ground.data }], guard := none }) rfl (fun K' hK' => ?_) AllReadyH.nil
            refine step_grown (d := 74) rfl elem111 (by decide) (by decide) (v := (.slice aX LN.length cX)) (n := LN.length) (m := 1) (xs := flat5 LN) (news := [.slice a j c, .slice aa (j + 1) ca, .slice ab (j + 2) cb, .slice ac (j + 3) cc, .int .i64 m]) (B := B) (ad := ⟨wd.heap.size, 0, none⟩) (cap := 1) rfl (.tmp 71) (.tmp 73) rfl rfl rfl ((unhide BK).fr ((Fr.refl _ _).alloc (.cells #[.slice a j c, .slice aa (j + 1) ca, .slice ab (j + 2) cb, .slice ac (j + 3) cc, .int .i64 m] 111)).drew).bk.rN rfl (World.news_of_block (heap_alloc_new wd _)) (by simp [Value.oneCell']) (by omega) (by omega) (by simp; omega) ?_
            intro v3 w3 o3 f3 sh3
            obtain ⟨av, cv, rfl⟩ := sh3
            have pr : w3.heap[bb]? = some (.cells #[.int .i64 (wrap64 (nf + 1)), vIf, vE, .slice aX LN.length cX] 65) := by
              have hb2 := ((unhide BK).fr ((Fr.refl _ _).alloc (.cells #[.slice a j c, .slice aa (j + 1) ca, .slice ab (j + 2) cb, .slice ac (j + 3) cc, .int .i64 m] 111)).drew)
              exact (f3.same bb (Array.getElem?_eq_some_iff.1 hb2.bk.blk).1 (own_ty hb2.bk.rN hb2.bk.blk (by decide))).trans hb2.bk.blk
            have pc := fun j => cell_of_row w3 bb j _ 65 (0, 0) pr
            have pz := fun j => frozen_rowE pr j
            have gg : w3.heap[wr.heap.size]? = some (.cells #[.slice a j c, .slice aa (j + 1) ca, .slice ab (j + 2) cb, .slice ac (j + 3) cc, .int .i64 m] 111 (0, 0)) := (f3.same _ (Array.getElem?_eq_some_iff.1 (hE5 _)).1 hXI).trans (hE5 (.cells #[.slice a j c, .slice aa (j + 1) ca, .slice ab (j + 2) cb, .slice ac (j + 3) cc, .int .i64 m] 111))
            have O3 := hide o3
            have F3 := hide f3
            clear o3 f3 pr
            refine hK'.out _ _ gg (fun hHeld => ?_)
            clear hK' K'
            simp only [List.setIfInBounds_toArray, List.set_cons_zero, List.set_cons_succ]
            refine wpAnyH_take (i := 8) (oi := { dst := some 75, op := Op.nilCheck (Operand.tmp 67), type := 0, pos := "law.go:132", after := #[{ on := 0, ground := Ground.data }, { on := 0, ground := Ground.phase }, { on := 1, ground := Ground.phase }, { on := 2, ground := Ground.phase }, { on := 3, ground := Ground.phase }, { on := 4, ground := Ground.phase }, { on := 5, ground := Ground.phase }, { on := 6, ground := Ground.phase }, { on := 7, ground := Ground.phase }], guard := none }) (v := ?_) rfl (by kernel_rfl) (by kernel_rfl) (by kernel_rfl) (fun _ _ _ h => h) (Or.inl ⟨by rfl, ?_⟩) (by assumption) ?_
            rotate_left
            · intro w hSw; (try dsimp only at hSw); go_simp; try with_reducible rfl
            simp only [Act.put, List.setIfInBounds_toArray, List.set_cons_zero, List.set_cons_succ]
            refine wpAnyH_take (i := 9) (oi := { dst := some 76, op := Op.fieldAddr 65 (Operand.tmp 75) 3, type := 0, pos := "law.go:132", after := #[{ on := 8, ground := Ground.data }, { on := 0, ground := Ground.phase }, { on := 1, ground := Ground.phase }, { on := 2, ground := Ground.phase }, { on := 3, ground := Ground.phase }, { on := 4, ground := Ground.phase }, { on := 5, ground := Ground.phase }, { on := 6, ground := Ground.phase }, { on := 7, ground := Ground.phase }], guard := none }) (v := ?_) rfl (by kernel_rfl) (by kernel_rfl) (by kernel_rfl) (fun _ _ _ h => h) (Or.inl ⟨by rfl, ?_⟩) (by assumption) ?_
            rotate_left
            · intro w hSw; (try dsimp only at hSw); go_simp; try with_reducible rfl
            simp only [Act.put, List.setIfInBounds_toArray, List.set_cons_zero, List.set_cons_succ]
            refine wpAnyH_ready (rs := [10]) (by kernel_rfl) (by simp) ?_
            refine AllReadyH.cons (o := { dst := none, op := Op.store 63 (Operand.tmp 76) (Operand.tmp 74), type := 0, pos := "law.go:132", after := #[{ on := 9, ground := Ground.data }, { on := 7, ground := Ground.data }, { on := 7, ground := Ground.chain }, { on := 0, ground := Ground.phase }, { on := 1, ground := Ground.phase }, { on := 2, ground := Ground.phase }, { on := 3, ground := Ground.phase }, { on := 4, ground := Ground.phase }, { on := 5, ground := Ground.phase }, { on := 6, ground := Ground.phase }, { on := 7, ground := Ground.phase }], guard := none }) rfl (fun K' hK' => ?_) AllReadyH.nil
            go_simp
            refine hK'.out _ _ ?_ (fun hHeld => ?_)
            · exact (Below.heap_setCell _ _ _ _ hXb).trans gg
            clear hK' K'
            try simp only [Act.put, List.setIfInBounds_toArray, List.set_cons_zero, List.set_cons_succ]
            refine wpAnyH_done (by kernel_rfl) ?_ _
            go_wp2
            go_end0
            exact ⟨rfl, unhide CLOSE _ (fin _ w3 (unhide O3) (unhide F3))⟩
/-- keepInputs. -/
theorem keepInputs_any {w : World} {B bb : Nat} {n0 : Int} {vI vE vN : Value} {LI LE LN : List Ent} {K : Nat → Prop} (h : BookK w B bb n0 vI vE vN LI LE LN K) (hbb : B ≤ bb) (hBw0 : B ≤ w.heap.size) {lv : Value} {ps : List (Inp × Value)} (hi : InsAt w B lv ps) (hk : ∀ q, inS lv ps q → ¬ K q) (hl : ps.length ≤ 100000000) (hfl : ∀ p, p ∈ ps → p.1.2.2.2.length ≤ 100) (hL : LI.length + ps.length ≤ 900000000000) (hLN : LN.length ≤ 900000000000) :
    Calls Tryz.prog 45 #[.pointer (some ⟨bb, 0, none⟩), lv] w fun e w' => e = .returned (.tuple #[]) ∧ InsKept w w' B bb vE LI LE LN ps.length := keepInputs_nn h hbb hBw0 rfl hi hk hl hfl hL hLN
end Go.Proofs.YtfmbebofllgmoaaGreatDoor
