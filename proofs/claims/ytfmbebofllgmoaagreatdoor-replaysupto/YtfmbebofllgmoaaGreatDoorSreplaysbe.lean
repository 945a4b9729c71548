/-
  PROVED HERE: append to a list of one's own, both the list and what comes of it may be read behind it. the Book of all lists that came out: looks answers true where each reads as its owner wrote it. looks answers true of a Book whose lists read as their owner wrote them. the Book, its lists in blocks of their own: what it keeps where other blocks turn. append to a list of one's own, with room or without: what has turned. the Book where one more list is kept. the document's cancel and arm. the document's arm. the document's clock, over a source that keeps its word. the document's world answers as the recorder's model (recAsk) says. rerunlaw.numbers, sameNumbers, sameEvents: a list of numbers is copied with four behind it, and held against its original. rerunlaw.world copies a world, and old memory stays. rerunlaw.world copies a world, and old memory stays: the walk. rerunlaw.stays answers true of a world's copy that was not written into. the document's due: the first of the earliest timers that are due. the document's order of timers that go off is the program's.
-/
import Derived.Test.YtfmbebofllgmoaaGreatDoorProg
import Derived.WalkKit
import Derived.WalkSpells
import Derived.WalkLawsBesides
import Derived.Deep.QuietTactic
import Derived.BigQuiet
import Derived.Deep.RegionHeld3
import Derived.Deep.AppendLies
import Derived.Laws.EntriesVeiled
import Derived.Deep.DrawnRows
import Derived.BigRegion
import Derived.Deep.LoopGhost
import Derived.Deep.MidRow
import Derived.Shelf.SlSortCmp.SmallK
import Derived.Shelf.SlicesG.Cmp
import Derived.Shelf.Small.Bits
import Derived.Deep.RegionLaw
import Derived.Lib.SliceRun
import Derived.Laws.StructEq
import Derived.Laws.BytesString
import Derived.ArgAppend
import Derived.Deep.DeepCutAuto
import Derived.Conc.LoneCalls
import Derived.Calls
import Derived.Tactics
import Derived.KernelRfl
import Derived.Laws.Rows
import Derived.Lib.SlBytesConst
import Derived.Laws.BitsAllLaws
import Derived.RangeFuncOwn
import Derived.Laws.IdiomStrings
import Derived.RangeFuncNested
import Derived.RangeFuncBound
import Derived.RangeFuncCalls
import Derived.RangeFuncLeaves
import Derived.Shelf.RegionOpen
import Derived.OwnWalkIn
import Derived.TacticsInMore
import Derived.Maps.OwnIn
import Derived.Maps.AppendAt
import Derived.LoopNIn
import Derived.LoopIn
import Derived.ChangeKeysEq
import Derived.Deep.DeepAppendRoom
import Derived.Test.YtfmbebofllgmoaaGreatDoorSreplaysbd
namespace Go.Proofs.YtfmbebofllgmoaaGreatDoor
open Go.RowKit

theorem row_prefix {w : World} {B e size n m g cap : Nat} {xs news : List Value} (h : w.ownsRow B e size (.slice (some ⟨g, 0, none⟩) (n + m) cap) (n + m) (xs ++ news)) (hl : xs.length = n * size) : w.ownsRow B e size (.slice (some ⟨g, 0, none⟩) n cap) n xs := by
  obtain ⟨h0, h⟩ := h
  rcases h with ⟨hv, _⟩ | ⟨g', cap', cur, hv, hB, hg, h1, h2, h3, h4⟩
  · cases hv
  · cases hv
    refine ⟨hl, .inr ⟨g, cap, cur, rfl, hB, hg, by omega, h2, h3, ?_⟩⟩
    have h5 := congrArg (List.take (n * size)) h4
    rw [List.take_take, ← hl, List.take_left] at h5
    rw [← hl]
    rw [show min xs.length ((n + m) * size) = xs.length by rw [hl, Nat.add_mul]; omega] at h5
    exact h5
end Go.Proofs.YtfmbebofllgmoaaGreatDoor
namespace Go.Proofs.YtfmbebofllgmoaaGreatDoor
open Go.RowKit
attribute [local go_sem ↓] Go.wp_at_zero Go.wp_at_succ

/-- A list that came out, and those that are longer; its mark. -/
structure Ent where
  l : Value
  a : Value
  b : Value
  c : Value
  m : Int
def flat5 : List Ent → List Value
  | [] => []
  | e :: r => e.l :: e.a :: e.b :: e.c :: .int .i64 e.m :: flat5 r
theorem flat5_append (a b : List Ent) : flat5 (a ++ b) = flat5 a ++ flat5 b := by
  induction a with
  | nil => rfl
  | cons x r ih => simp [flat5, ih]
theorem flat5_get : ∀ (es : List Ent) (i : Nat) (e : Ent), es[i]? = some e → (flat5 es)[i * 5]? = some e.l ∧ (flat5 es)[i * 5 + 1]? = some e.a ∧ (flat5 es)[i * 5 + 2]? = some e.b ∧ (flat5 es)[i * 5 + 3]? = some e.c ∧ (flat5 es)[i * 5 + 4]? = some (.int .i64 e.m)
  | [], i, p, h => by simp at h
  | x :: r, 0, p, h => by
    simp at h
    subst h
    exact ⟨rfl, rfl, rfl, rfl, rfl⟩
  | x :: r, i + 1, p, h => by
    have hr := flat5_get r i p (by simpa using h)
    have e : ∀ j, (flat5 (x :: r))[(i + 1) * 5 + j]? = (flat5 r)[i * 5 + j]? := fun j => by
      rw [show (i + 1) * 5 + j = (i * 5 + j) + 5 by omega]; rfl
    exact ⟨(e 0).trans hr.1, (e 1).trans hr.2.1, (e 2).trans hr.2.2.1, (e 3).trans hr.2.2.2.1, (e 4).trans hr.2.2.2.2⟩
/-- A list of events that are all one mark. -/
def FullE (w : World) (v : Value) (m : Int) : Prop := ∃ a n c, v = .slice a n c ∧ n ≤ 1000000000 ∧ (n = 0 ∨ ∃ q off, a = some ⟨q, off, none⟩ ∧ ∀ i, i < n → w.cell? ⟨q, off + i * 3, none⟩ = some (.int .i64 0) ∧ w.cell? ⟨q, off + i * 3 + 1, none⟩ = some (.int .i64 m) ∧ w.cell? ⟨q, off + i * 3 + 2, none⟩ = some (.int .i64 0))
section
variable {w W : World} {v : Value} {m : Int}
theorem FullI.fr (h : FullI w v m) (hf : Fr (fun _ => False) w W (fun _ => False)) : FullI W v m := by
  obtain ⟨a, n, c, hv, hn, hc⟩ := h
  refine ⟨a, n, c, hv, hn, hc.imp id fun ⟨q, off, e, hcell⟩ => ⟨q, off, e, fun i hi => ?_⟩⟩
  exact (hf.cell q (off + i) (World.block_lt_of_cell? w _ (hcell i hi)) (fun h => h)).trans (hcell i hi)
theorem FullE.fr (h : FullE w v m) (hf : Fr (fun _ => False) w W (fun _ => False)) : FullE W v m := by
  obtain ⟨a, n, c, hv, hn, hc⟩ := h
  refine ⟨a, n, c, hv, hn, hc.imp id fun ⟨q, off, e, hcell⟩ => ⟨q, off, e, fun i hi => ?_⟩⟩
  obtain ⟨h0, h1, h2⟩ := hcell i hi
  have hq := World.block_lt_of_cell? w _ h0
  exact ⟨(hf.cell q _ hq (fun h => h)).trans h0, (hf.cell q _ hq (fun h => h)).trans h1, (hf.cell q _ hq (fun h => h)).trans h2⟩
theorem FullN.fr (h : FullN w v m) (hf : Fr (fun _ => False) w W (fun _ => False)) : FullN W v m := by
  obtain ⟨a, n, c, hv, hn, hc⟩ := h
  refine ⟨a, n, c, hv, hn, hc.imp id fun ⟨q, off, e, hcell⟩ => ⟨q, off, e, fun i hi => ?_⟩⟩
  obtain ⟨h0, h1, h2, h3⟩ := hcell i hi
  have hq := World.block_lt_of_cell? w _ h0
  exact ⟨(hf.cell q _ hq (fun h => h)).trans h0, (hf.cell q _ hq (fun h => h)).trans h1, (hf.cell q _ hq (fun h => h)).trans h2, (hf.cell q _ hq (fun h => h)).trans h3⟩
end
theorem fullEvents_any {w : World} {v : Value} {m : Int} (h : FullE w v m) : Calls Tryz.prog 48 #[v, .int .i64 m] w fun e w' => e = .returned (.bool true) ∧ Fr (fun _ => False) w w' (fun _ => False) := by
  obtain ⟨a, n, c, rfl, hn, hc⟩ := h
  have HC := hide hc
  clear hc
  go_enter Tryz.func48, Tryz.ntmps48
  go_wp2
  have hf1 : Fr (fun _ => False) w (w.alloc (.cells #[.int .i64 0, .int .i64 m, .int .i64 0] 72)) (fun _ => False) := (Fr.refl _ _).alloc _
  have hb1 := heap_alloc_new w (.cells #[.int .i64 0, .int .i64 m, .int .i64 0] 72)
  generalize hW : w.alloc (.cells #[.int .i64 0, .int .i64 m, .int .i64 0] 72) = W at *
  clear hW
  have HF1 := hide hf1
  have HB1 := hide hb1
  clear hf1 hb1
  go_loopw [6] (fun i wr => ∃ j : Nat, j ≤ n ∧ i = .int .i64 j ∧ Dr W wr) (fun i _ => n - (intOf i).toNat)
  case atStart => exact ⟨0, Nat.zero_le _, rfl, Dr.refl _⟩
  case round =>
    obtain ⟨j, hj, rfl, hd⟩ := hrel
    by_cases hlt : j < n
    · rcases unhide HC with hz | ⟨q, off, rfl, hcq⟩
      · omega
      obtain ⟨g0, g1, g2⟩ := hcq j hlt
      have hq := World.block_lt_of_cell? w _ g0
      have k0 := (hd.cell ⟨q, off + j * 3, none⟩).trans (((unhide HF1).cell q _ hq (fun h => h)).trans g0)
      have k1 := (hd.cell ⟨q, off + j * 3 + 1, none⟩).trans (((unhide HF1).cell q _ hq (fun h => h)).trans g1)
      have k2 := (hd.cell ⟨q, off + j * 3 + 2, none⟩).trans (((unhide HF1).cell q _ hq (fun h => h)).trans g2)
      have c1 := fun i => (hd.cell ⟨w.heap.size, i, none⟩).trans (cell_of_row W _ i _ 72 (0, 0) (unhide HB1))
      clear hcq HC g0 g1 g2
      have hk0 : (0 : Int) ≤ (j : Int) := by omega
      have hk1 : (j : Int) < (n : Int) := by omega
      go_wp2
      go_quiet (fail)
      go_wp2
      go_roundw
      case rel => exact ⟨j + 1, by omega, by go_num, hd.more _⟩
      case measure => simp [intOf]; omega
    · have hk1 : ¬ (j : Int) < (n : Int) := by omega
      go_wp2
      go_ret
      refine ⟨rfl, ?_⟩
      obtain ⟨k, rfl⟩ := hd
      exact (unhide HF1).drewN k

/-- The Book: its block, its rows, and every list as its owner wrote it. -/
structure BookIn (w : World) (B bb : Nat) (n : Int) (vI vE vN : Value) (LI LE LN : List Ent) : Prop where
  blk : w.heap[bb]? = some (.cells #[.int .i64 n, vI, vE, vN] 65)
  rI : w.ownsRow B 105 5 vI LI.length (flat5 LI)
  rE : w.ownsRow B 108 5 vE LE.length (flat5 LE)
  rN : w.ownsRow B 111 5 vN LN.length (flat5 LN)
  fI : ∀ e, e ∈ LI → FullI w e.l e.m ∧ FullI w e.a e.m ∧ FullI w e.b e.m ∧ FullI w e.c e.m
  fE : ∀ e, e ∈ LE → FullE w e.l e.m ∧ FullE w e.a e.m ∧ FullE w e.b e.m ∧ FullE w e.c e.m
  fN : ∀ e, e ∈ LN → FullN w e.l e.m ∧ FullN w e.a e.m ∧ FullN w e.b e.m ∧ FullN w e.c e.m
theorem BookIn.fr {w W : World} {B bb : Nat} {n : Int} {vI vE vN : Value} {LI LE LN : List Ent} (h : BookIn w B bb n vI vE vN LI LE LN) (hf : Fr (fun _ => False) w W (fun _ => False)) : BookIn W B bb n vI vE vN LI LE LN := by
  have er : ∀ {B e size n v xs}, w.ownsRow B e size v n xs → W.ownsRow B e size v n xs := fun hr => ownsRow_of_block hr (fun q hq => hf.same q (World.ownsRow.lt hr q hq).2 (fun h => h))
  exact ⟨(hf.same _ (Array.getElem?_eq_some_iff.1 h.blk).1 (fun h => h)).trans h.blk, er h.rI, er h.rE, er h.rN,
    fun e he => ⟨(h.fI e he).1.fr hf, (h.fI e he).2.1.fr hf, (h.fI e he).2.2.1.fr hf, (h.fI e he).2.2.2.fr hf⟩, fun e he => ⟨(h.fE e he).1.fr hf, (h.fE e he).2.1.fr hf, (h.fE e he).2.2.1.fr hf, (h.fE e he).2.2.2.fr hf⟩, fun e he => ⟨(h.fN e he).1.fr hf, (h.fN e he).2.1.fr hf, (h.fN e he).2.2.1.fr hf, (h.fN e he).2.2.2.fr hf⟩⟩
/-- An entry's cells. -/
theorem ent_cells {w : World} {B e : Nat} {v : Value} {es : List Ent} (h : w.ownsRow B e 5 v es.length (flat5 es)) {i : Nat} (hi : i < es.length) : ∃ g c, v = .slice (some ⟨g, 0, none⟩) es.length c ∧ w.cell? ⟨g, i * 5, none⟩ = some (es[i]).l ∧ w.cell? ⟨g, i * 5 + 1, none⟩ = some (es[i]).a ∧ w.cell? ⟨g, i * 5 + 2, none⟩ = some (es[i]).b ∧ w.cell? ⟨g, i * 5 + 3, none⟩ = some (es[i]).c ∧ w.cell? ⟨g, i * 5 + 4, none⟩ = some (.int .i64 (es[i]).m) := by
  obtain ⟨g, c, hv, _, _, hc⟩ := row_cell h (by omega)
  obtain ⟨g0, g1, g2, g3, g4⟩ := flat5_get es i es[i] (List.getElem?_eq_getElem hi)
  exact ⟨g, c, hv, hc _ _ g0, hc _ _ g1, hc _ _ g2, hc _ _ g3, hc _ _ g4⟩
theorem FullI.shape {w : World} {v : Value} {m : Int} (h : FullI w v m) : ∃ a n c, v = .slice a n c := by obtain ⟨a, n, c, hv, _⟩ := h; exact ⟨a, n, c, hv⟩
theorem FullE.shape {w : World} {v : Value} {m : Int} (h : FullE w v m) : ∃ a n c, v = .slice a n c := by obtain ⟨a, n, c, hv, _⟩ := h; exact ⟨a, n, c, hv⟩
theorem FullN.shape {w : World} {v : Value} {m : Int} (h : FullN w v m) : ∃ a n c, v = .slice a n c := by obtain ⟨a, n, c, hv, _⟩ := h; exact ⟨a, n, c, hv⟩
end Go.Proofs.YtfmbebofllgmoaaGreatDoor
namespace Go.Proofs.YtfmbebofllgmoaaGreatDoor
open Go.RowKit
attribute [local go_sem ↓] Go.wp_at_zero Go.wp_at_succ

set_option maxHeartbeats 4000000 in
set_option maxRecDepth 20000 in
theorem looks_any {w : World} {B bb : Nat} {n : Int} {vI vE vN : Value} {LI LE LN : List Ent} (h : BookIn w B bb n vI vE vN LI LE LN) (hI : LI.length ≤ 1000000000000) (hE : LE.length ≤ 1000000000000) (hN : LN.length ≤ 1000000000000) :
    Calls Tryz.prog 24 #[.pointer (some ⟨bb, 0, none⟩)] w fun e w' => e = .returned (.bool true) ∧ Fr (fun _ => False) w w' (fun _ => False) := by
  obtain ⟨aI, cI, rfl⟩ := row_shape h.rI
  obtain ⟨aE, cE, rfl⟩ := row_shape h.rE
  obtain ⟨aN, cN, rfl⟩ := row_shape h.rN
  have HB := hide h
  clear h
  go_enter Tryz.func24, Tryz.ntmps24
  go_wp2
  go_loopw [3] (fun i wr => ∃ j : Nat, j ≤ LI.length ∧ i = .int .i64 j ∧ Fr (fun _ => False) w wr (fun _ => False)) (fun i _ => LI.length - (intOf i).toNat)
  case atStart => exact ⟨0, Nat.zero_le _, rfl, Fr.refl _ _⟩
  case round =>
    obtain ⟨j, hj, rfl, hfr⟩ := hrel
    have hb := (unhide HB).fr hfr
    have cb := fun i => cell_of_row wr _ i _ 65 (0, 0) hb.blk
    by_cases hlt : j < LI.length
    · obtain ⟨g, cc, hv, k0, k1, k2, k3, k4⟩ := ent_cells hb.rI hlt
      injection hv with hv1 hv2 hv3
      subst hv1
      obtain ⟨f0, f1, f2, f3⟩ := hb.fI _ (List.getElem_mem hlt)
      generalize LI[j] = e at *
      obtain ⟨el, ea, eb, ec, em⟩ := e
      simp only at k0 k1 k2 k3 k4 f0 f1 f2 f3
      obtain ⟨a0, n0, c0, rfl⟩ := f0.shape
      obtain ⟨a1, n1, c1, rfl⟩ := f1.shape
      obtain ⟨a2, n2, c2, rfl⟩ := f2.shape
      obtain ⟨a3, n3, c3, rfl⟩ := f3.shape
      have fa : Fr (fun _ => False) wr (wr.alloc (.cells #[.slice a0 n0 c0, .slice a1 n1 c1, .slice a2 n2 c2, .slice a3 n3 c3, .int .i64 em] 105)) (fun _ => False) := (Fr.refl _ _).alloc _
      have xb := heap_alloc_new wr (.cells #[.slice a0 n0 c0, .slice a1 n1 c1, .slice a2 n2 c2, .slice a3 n3 c3, .int .i64 em] 105)
      have HF := hide (fun (W : World) (hW : Fr (fun _ => False) (wr.alloc (.cells #[.slice a0 n0 c0, .slice a1 n1 c1, .slice a2 n2 c2, .slice a3 n3 c3, .int .i64 em] 105)) W (fun _ => False)) => And.intro (f0.fr (fa.trans hW)) (And.intro (f1.fr (fa.trans hW)) (And.intro (f2.fr (fa.trans hW)) (f3.fr (fa.trans hW)))))
      have HX := hide (fun (W : World) (hW : Fr (fun _ => False) (wr.alloc (.cells #[.slice a0 n0 c0, .slice a1 n1 c1, .slice a2 n2 c2, .slice a3 n3 c3, .int .i64 em] 105)) W (fun _ => False)) (i : Nat) => cell_of_row W _ i _ 105 (0, 0) ((hW.same wr.heap.size (by simp) (fun h => h)).trans xb))
      have H0 := hide (fun (W : World) (hW : Fr (fun _ => False) (wr.alloc (.cells #[.slice a0 n0 c0, .slice a1 n1 c1, .slice a2 n2 c2, .slice a3 n3 c3, .int .i64 em] 105)) W (fun _ => False)) => (fullInts_any (unhide HF W hW).1))
      have H1 := hide (fun (W : World) (hW : Fr (fun _ => False) (wr.alloc (.cells #[.slice a0 n0 c0, .slice a1 n1 c1, .slice a2 n2 c2, .slice a3 n3 c3, .int .i64 em] 105)) W (fun _ => False)) => (fullInts_any (unhide HF W hW).2.1))
      have H2 := hide (fun (W : World) (hW : Fr (fun _ => False) (wr.alloc (.cells #[.slice a0 n0 c0, .slice a1 n1 c1, .slice a2 n2 c2, .slice a3 n3 c3, .int .i64 em] 105)) W (fun _ => False)) => (fullInts_any (unhide HF W hW).2.2.1))
      have H3 := hide (fun (W : World) (hW : Fr (fun _ => False) (wr.alloc (.cells #[.slice a0 n0 c0, .slice a1 n1 c1, .slice a2 n2 c2, .slice a3 n3 c3, .int .i64 em] 105)) W (fun _ => False)) => (fullInts_any (unhide HF W hW).2.2.2))
      have FA := hide fa
      have FW := hide hfr
      have FC := hide (Fr.refl (fun _ => False) (wr.alloc (.cells #[.slice a0 n0 c0, .slice a1 n1 c1, .slice a2 n2 c2, .slice a3 n3 c3, .int .i64 em] 105)))
      have hk0 : (0 : Int) ≤ (j : Int) := by omega
      have hk1 : (j : Int) < (LI.length : Int) := by omega
      have xc := unhide HX _ (unhide FC)
      clear f0 f1 f2 f3 fa xb hb hfr hv2 hv3 HF
      go_wp2_with (go_at_call 47; (first | (refine (unhide H0 _ (unhide FC)).mono ?_; clear H0) | (refine (unhide H1 _ (unhide FC)).mono ?_; clear H1) | (refine (unhide H2 _ (unhide FC)).mono ?_; clear H2) | (refine (unhide H3 _ (unhide FC)).mono ?_; clear H3)); rintro e w' ⟨rfl, hw'⟩; rw [hw']; clear hw' w')
      go_roundw
      case rel => exact ⟨j + 1, by omega, by go_num, (unhide FW).trans (unhide FA)⟩
      case measure => simp [intOf]; omega
    · have hk1 : ¬ (j : Int) < (LI.length : Int) := by omega
      have FW3 := hide hfr
      clear hb hfr
      go_wp2
      clear cb
      go_loopw [5] (fun i wr => ∃ j : Nat, j ≤ LE.length ∧ i = .int .i64 j ∧ Fr (fun _ => False) w wr (fun _ => False)) (fun i _ => LE.length - (intOf i).toNat)
      case atStart => exact ⟨0, Nat.zero_le _, rfl, unhide FW3⟩
      case round =>
        obtain ⟨j, hj, rfl, hfr⟩ := hrel
        have hb := (unhide HB).fr hfr
        have cb := fun i => cell_of_row wr _ i _ 65 (0, 0) hb.blk
        by_cases hlt : j < LE.length
        · obtain ⟨g, cc, hv, k0, k1, k2, k3, k4⟩ := ent_cells hb.rE hlt
          injection hv with hv1 hv2 hv3
          subst hv1
          obtain ⟨f0, f1, f2, f3⟩ := hb.fE _ (List.getElem_mem hlt)
          generalize LE[j] = e at *
          obtain ⟨el, ea, eb, ec, em⟩ := e
          simp only at k0 k1 k2 k3 k4 f0 f1 f2 f3
          obtain ⟨a0, n0, c0, rfl⟩ := f0.shape
          obtain ⟨a1, n1, c1, rfl⟩ := f1.shape
          obtain ⟨a2, n2, c2, rfl⟩ := f2.shape
          obtain ⟨a3, n3, c3, rfl⟩ := f3.shape
          have fa : Fr (fun _ => False) wr (wr.alloc (.cells #[.slice a0 n0 c0, .slice a1 n1 c1, .slice a2 n2 c2, .slice a3 n3 c3, .int .i64 em] 108)) (fun _ => False) := (Fr.refl _ _).alloc _
          have xb := heap_alloc_new wr (.cells #[.slice a0 n0 c0, .slice a1 n1 c1, .slice a2 n2 c2, .slice a3 n3 c3, .int .i64 em] 108)
          have HF := hide (fun (W : World) (hW : Fr (fun _ => False) (wr.alloc (.cells #[.slice a0 n0 c0, .slice a1 n1 c1, .slice a2 n2 c2, .slice a3 n3 c3, .int .i64 em] 108)) W (fun _ => False)) => And.intro (f0.fr (fa.trans hW)) (And.intro (f1.fr (fa.trans hW)) (And.intro (f2.fr (fa.trans hW)) (f3.fr (fa.trans hW)))))
          have HX := hide (fun (W : World) (hW : Fr (fun _ => False) (wr.alloc (.cells #[.slice a0 n0 c0, .slice a1 n1 c1, .slice a2 n2 c2, .slice a3 n3 c3, .int .i64 em] 108)) W (fun _ => False)) (i : Nat) => cell_of_row W _ i _ 108 (0, 0) ((hW.same wr.heap.size (by simp) (fun h => h)).trans xb))
          have H0 := hide (fun (W : World) (hW : Fr (fun _ => False) (wr.alloc (.cells #[.slice a0 n0 c0, .slice a1 n1 c1, .slice a2 n2 c2, .slice a3 n3 c3, .int .i64 em] 108)) W (fun _ => False)) => (fullEvents_any (unhide HF W hW).1))
          have H1 := hide (fun (W : World) (hW : Fr (fun _ => False) (wr.alloc (.cells #[.slice a0 n0 c0, .slice a1 n1 c1, .slice a2 n2 c2, .slice a3 n3 c3, .int .i64 em] 108)) W (fun _ => False)) => (fullEvents_any (unhide HF W hW).2.1))
          have H2 := hide (fun (W : World) (hW : Fr (fun _ => False) (wr.alloc (.cells #[.slice a0 n0 c0, .slice a1 n1 c1, .slice a2 n2 c2, .slice a3 n3 c3, .int .i64 em] 108)) W (fun _ => False)) => (fullEvents_any (unhide HF W hW).2.2.1))
          have H3 := hide (fun (W : World) (hW : Fr (fun _ => False) (wr.alloc (.cells #[.slice a0 n0 c0, .slice a1 n1 c1, .slice a2 n2 c2, .slice a3 n3 c3, .int .i64 em] 108)) W (fun _ => False)) => (fullEvents_any (unhide HF W hW).2.2.2))
          have FA := hide fa
          have FW := hide hfr
          have FC := hide (Fr.refl (fun _ => False) (wr.alloc (.cells #[.slice a0 n0 c0, .slice a1 n1 c1, .slice a2 n2 c2, .slice a3 n3 c3, .int .i64 em] 108)))
          have hk0 : (0 : Int) ≤ (j : Int) := by omega
          have hk1 : (j : Int) < (LE.length : Int) := by omega
          have xc := unhide HX _ (unhide FC)
          clear f0 f1 f2 f3 fa xb hb hfr hv2 hv3 HF
          go_wp2_with (go_at_call 48; (first | (refine (unhide H0 _ (unhide FC)).mono ?_; clear H0) | (refine (unhide H1 _ (unhide FC)).mono ?_; clear H1) | (refine (unhide H2 _ (unhide FC)).mono ?_; clear H2) | (refine (unhide H3 _ (unhide FC)).mono ?_; clear H3)); rintro e w' ⟨rfl, f'⟩; have FC := hide ((unhide FC).trans f'); have xc := unhide HX _ (unhide FC); clear f')
          go_roundw
          case rel => exact ⟨j + 1, by omega, by go_num, ((unhide FW).trans (unhide FA)).trans (unhide FC)⟩
          case measure => simp [intOf]; omega
        · have hk1 : ¬ (j : Int) < (LE.length : Int) := by omega
          have FW5 := hide hfr
          clear hb hfr
          go_wp2
          clear cb
          go_loopw [7] (fun i wr => ∃ j : Nat, j ≤ LN.length ∧ i = .int .i64 j ∧ Fr (fun _ => False) w wr (fun _ => False)) (fun i _ => LN.length - (intOf i).toNat)
          case atStart => exact ⟨0, Nat.zero_le _, rfl, unhide FW5⟩
          case round =>
            obtain ⟨j, hj, rfl, hfr⟩ := hrel
            have hb := (unhide HB).fr hfr
            have cb := fun i => cell_of_row wr _ i _ 65 (0, 0) hb.blk
            by_cases hlt : j < LN.length
            · obtain ⟨g, cc, hv, k0, k1, k2, k3, k4⟩ := ent_cells hb.rN hlt
              injection hv with hv1 hv2 hv3
              subst hv1
              obtain ⟨f0, f1, f2, f3⟩ := hb.fN _ (List.getElem_mem hlt)
              generalize LN[j] = e at *
              obtain ⟨el, ea, eb, ec, em⟩ := e
              simp only at k0 k1 k2 k3 k4 f0 f1 f2 f3
              obtain ⟨a0, n0, c0, rfl⟩ := f0.shape
              obtain ⟨a1, n1, c1, rfl⟩ := f1.shape
              obtain ⟨a2, n2, c2, rfl⟩ := f2.shape
              obtain ⟨a3, n3, c3, rfl⟩ := f3.shape
              have fa : Fr (fun _ => False) wr (wr.alloc (.cells #[.slice a0 n0 c0, .slice a1 n1 c1, .slice a2 n2 c2, .slice a3 n3 c3, .int .i64 em] 111)) (fun _ => False) := (Fr.refl _ _).alloc _
              have xb := heap_alloc_new wr (.cells #[.slice a0 n0 c0, .slice a1 n1 c1, .slice a2 n2 c2, .slice a3 n3 c3, .int .i64 em] 111)
              have HF := hide (fun (W : World) (hW : Fr (fun _ => False) (wr.alloc (.cells #[.slice a0 n0 c0, .slice a1 n1 c1, .slice a2 n2 c2, .slice a3 n3 c3, .int .i64 em] 111)) W (fun _ => False)) => And.intro (f0.fr (fa.trans hW)) (And.intro (f1.fr (fa.trans hW)) (And.intro (f2.fr (fa.trans hW)) (f3.fr (fa.trans hW)))))
              have HX := hide (fun (W : World) (hW : Fr (fun _ => False) (wr.alloc (.cells #[.slice a0 n0 c0, .slice a1 n1 c1, .slice a2 n2 c2, .slice a3 n3 c3, .int .i64 em] 111)) W (fun _ => False)) (i : Nat) => cell_of_row W _ i _ 111 (0, 0) ((hW.same wr.heap.size (by simp) (fun h => h)).trans xb))
              have H0 := hide (fun (W : World) (hW : Fr (fun _ => False) (wr.alloc (.cells #[.slice a0 n0 c0, .slice a1 n1 c1, .slice a2 n2 c2, .slice a3 n3 c3, .int .i64 em] 111)) W (fun _ => False)) => (fullInputs_any (unhide HF W hW).1))
              have H1 := hide (fun (W : World) (hW : Fr (fun _ => False) (wr.alloc (.cells #[.slice a0 n0 c0, .slice a1 n1 c1, .slice a2 n2 c2, .slice a3 n3 c3, .int .i64 em] 111)) W (fun _ => False)) => (fullInputs_any (unhide HF W hW).2.1))
              have H2 := hide (fun (W : World) (hW : Fr (fun _ => False) (wr.alloc (.cells #[.slice a0 n0 c0, .slice a1 n1 c1, .slice a2 n2 c2, .slice a3 n3 c3, .int .i64 em] 111)) W (fun _ => False)) => (fullInputs_any (unhide HF W hW).2.2.1))
              have H3 := hide (fun (W : World) (hW : Fr (fun _ => False) (wr.alloc (.cells #[.slice a0 n0 c0, .slice a1 n1 c1, .slice a2 n2 c2, .slice a3 n3 c3, .int .i64 em] 111)) W (fun _ => False)) => (fullInputs_any (unhide HF W hW).2.2.2))
              have FA := hide fa
              have FW := hide hfr
              have FC := hide (Fr.refl (fun _ => False) (wr.alloc (.cells #[.slice a0 n0 c0, .slice a1 n1 c1, .slice a2 n2 c2, .slice a3 n3 c3, .int .i64 em] 111)))
              have hk0 : (0 : Int) ≤ (j : Int) := by omega
              have hk1 : (j : Int) < (LN.length : Int) := by omega
              have xc := unhide HX _ (unhide FC)
              clear f0 f1 f2 f3 fa xb hb hfr hv2 hv3 HF
              go_wp2_with (go_at_call 49; (first | (refine (unhide H0 _ (unhide FC)).mono ?_; clear H0) | (refine (unhide H1 _ (unhide FC)).mono ?_; clear H1) | (refine (unhide H2 _ (unhide FC)).mono ?_; clear H2) | (refine (unhide H3 _ (unhide FC)).mono ?_; clear H3)); rintro e w' ⟨rfl, hw'⟩; rw [hw']; clear hw' w')
              go_roundw
              case rel => exact ⟨j + 1, by omega, by go_num, (unhide FW).trans (unhide FA)⟩
              case measure => simp [intOf]; omega
            · have hk1 : ¬ (j : Int) < (LN.length : Int) := by omega
              have FW7 := hide hfr
              clear hb hfr
              go_wp2
              go_ret
              exact ⟨rfl, unhide FW7⟩
end Go.Proofs.YtfmbebofllgmoaaGreatDoor
namespace Go.Proofs.YtfmbebofllgmoaaGreatDoor
open Go.RowKit

/-- Where a slice with elements lies. -/
def LiesIn (v : Value) (K : Nat → Prop) : Prop := ∀ q off n c, v = .slice (some ⟨q, off, none⟩) n c → 0 < n → K q
theorem LiesIn.mono {v : Value} {K K' : Nat → Prop} (h : LiesIn v K) (hk : ∀ q, K q → K' q) : LiesIn v K' := fun q off n c hv hn => hk q (h q off n c hv hn)
section
variable {w W : World} {v : Value} {m : Int} {K : Nat → Prop}
theorem FullI.keep (h : FullI w v m) (hl : LiesIn v K) (hk : ∀ q, K q → W.heap[q]? = w.heap[q]?) : FullI W v m := by
  obtain ⟨a, n, c, rfl, hn, hc⟩ := h
  refine ⟨a, n, c, rfl, hn, ?_⟩
  rcases Nat.eq_zero_or_pos n with h0 | h0
  · exact .inl h0
  rcases hc with h1 | ⟨q, off, rfl, hcell⟩
  · omega
  have hq := hk q (hl q off n c rfl h0)
  exact .inr ⟨q, off, rfl, fun i hi => by rw [cellOf_heap hq]; exact hcell i hi⟩
theorem FullE.keep (h : FullE w v m) (hl : LiesIn v K) (hk : ∀ q, K q → W.heap[q]? = w.heap[q]?) : FullE W v m := by
  obtain ⟨a, n, c, rfl, hn, hc⟩ := h
  refine ⟨a, n, c, rfl, hn, ?_⟩
  rcases Nat.eq_zero_or_pos n with h0 | h0
  · exact .inl h0
  rcases hc with h1 | ⟨q, off, rfl, hcell⟩
  · omega
  have hq := hk q (hl q off n c rfl h0)
  exact .inr ⟨q, off, rfl, fun i hi => by rw [cellOf_heap hq, cellOf_heap hq, cellOf_heap hq]; exact hcell i hi⟩
theorem FullN.keep (h : FullN w v m) (hl : LiesIn v K) (hk : ∀ q, K q → W.heap[q]? = w.heap[q]?) : FullN W v m := by
  obtain ⟨a, n, c, rfl, hn, hc⟩ := h
  refine ⟨a, n, c, rfl, hn, ?_⟩
  rcases Nat.eq_zero_or_pos n with h0 | h0
  · exact .inl h0
  rcases hc with h1 | ⟨q, off, rfl, hcell⟩
  · omega
  have hq := hk q (hl q off n c rfl h0)
  exact .inr ⟨q, off, rfl, fun i hi => by rw [cellOf_heap hq, cellOf_heap hq, cellOf_heap hq, cellOf_heap hq]; exact hcell i hi⟩
theorem own_lies : LiesIn v (own v) := fun q off n' c hv _ => by
  rw [hv]; rfl
end
/-- The Book, and where its lists lie. -/
structure BookK (w : World) (B bb : Nat) (n : Int) (vI vE vN : Value) (LI LE LN : List Ent) (K : Nat → Prop) : Prop where
  bk : BookIn w B bb n vI vE vN LI LE LN
  lI : ∀ e, e ∈ LI → LiesIn e.l K ∧ LiesIn e.a K ∧ LiesIn e.b K ∧ LiesIn e.c K
  lE : ∀ e, e ∈ LE → LiesIn e.l K ∧ LiesIn e.a K ∧ LiesIn e.b K ∧ LiesIn e.c K
  lN : ∀ e, e ∈ LN → LiesIn e.l K ∧ LiesIn e.a K ∧ LiesIn e.b K ∧ LiesIn e.c K
  apart : ∀ q, K q → q < w.heap.size ∧ q ≠ bb ∧ ¬ own vI q ∧ ¬ own vE q ∧ ¬ own vN q
theorem BookK.fr {w W : World} {B bb : Nat} {n : Int} {vI vE vN : Value} {LI LE LN : List Ent} {K : Nat → Prop} (h : BookK w B bb n vI vE vN LI LE LN K) (hf : Fr (fun _ => False) w W (fun _ => False)) : BookK W B bb n vI vE vN LI LE LN K :=
  ⟨h.bk.fr hf, h.lI, h.lE, h.lN, fun q hq => ⟨Nat.lt_of_lt_of_le (h.apart q hq).1 hf.size, (h.apart q hq).2⟩⟩
end Go.Proofs.YtfmbebofllgmoaaGreatDoor
namespace Go.Proofs.YtfmbebofllgmoaaGreatDoor
open Go.RowKit

theorem wpList_both {ops : Array Oper} {rest : List Oper} {o : Oper} {a : Act} {Q : Exit → Act → World → Prop} {w : World} {B t e size bytes : Nat} (E : Elem t e size bytes) (hs0 : 0 < size) (hs1 : bytes ≤ 200) {v : Value} {n m : Nat} {xs news : List Value} (hgd : o.guard = none) (sv xv : Operand)
    (ho : o.op = .call { callee := .builtin .append, args := #[sv, xv], argTypes := #[t, t] }) {ad : Addr} {cap : Nat} (hs : a.eval sv = v) (hx : a.eval xv = .slice (some ad) m cap) (hrow : w.ownsRow B e size v n xs) (hl : news.length = m * size)
    (hc : ∀ j u, news[j]? = some u → w.cell? (ad.add j) = some u) (h1 : ∀ u ∈ news, u.oneCell' = true) (hm : 0 < m) (hn : n + m ≤ 100000000000) (hB : B ≤ w.heap.size)
    (h : ∀ v' w', (∃ a c, v' = .slice a (n + m) c) → w'.ownsRow B e size v' (n + m) (xs ++ news) →
      ((∃ g cp, v = .slice (some ⟨g, 0, none⟩) n cp ∧ v' = .slice (some ⟨g, 0, none⟩) (n + m) cp ∧ n + m ≤ cp ∧ w.grownBy w' (some g)) ∨ (w.grownBy w' none ∧ ∀ q, own v' q → w.heap.size ≤ q)) → wpList Tryz.prog ops Q rest (a.put o.dst v') w') : wpList Tryz.prog ops Q (o :: rest) a w := by
  obtain ⟨i, z, hi, hz, hsz, hby, hzc⟩ := E.i
  have hmx : n + m ≤ maxLen := by simp only [maxLen]; omega
  have hbb : (n + m) * bytes ≤ 140737488355328 := Nat.le_trans (Nat.mul_le_mul hn hs1) (by omega)
  have hlen : xs.length = n * size := hrow.1
  have fresh : ∀ v' w', w'.ownsRow w.heap.size e size v' (n + m) (xs ++ news) → w.grownBy w' none → wpList Tryz.prog ops Q rest (a.put o.dst v') w' := fun v' w' r1 r2 =>
    h v' w' (row_shape r1) (ownsRow_low r1 hB) (.inr ⟨r2, fun q hq => (World.ownsRow.lt r1 q hq).1⟩)
  rcases hrow.2 with ⟨hv, h0⟩ | ⟨g, cp, cur, hv, hBg, hg, hcp, hcm, hcs, htk⟩
  · subst h0
    have hx0 : xs = [] := List.eq_nil_of_length_eq_zero (by rw [hlen]; simp)
    refine wpList_append_grows (P := Tryz.prog) w hgd sv xv t ho e i z size bytes E.u hi hz hsz hby hzc hs0 none 0 0 xs (by rw [hs, hv]) (fun _ => ⟨rfl, rfl⟩) (by rw [hx0]; simp) (fun b hb => by cases hb) ad m cap news hx hl hc h1 (by omega) hmx hbb fresh
  · by_cases hr : n + m ≤ cp
    · refine wpList_append_own_spare (P := Tryz.prog) w hgd sv xv t ho B e i size E.u hi hsz g n cp xs (by rw [hs, hv]) (hv ▸ hrow) ad m cap news hx hl hc h1 hr ?_
      intro w' r1 r2
      exact h _ w' ⟨_, _, rfl⟩ r1 (.inl ⟨g, cp, hv, rfl, hr, r2⟩)
    · refine wpList_append_grows (P := Tryz.prog) w hgd sv xv t ho e i z size bytes E.u hi hz hsz hby hzc hs0 (some ⟨g, 0, none⟩) n cp xs (by rw [hs, hv]) (fun h => by cases h) hlen (fun b hb j u hj => ?_) ad m cap news hx hl hc h1 (by omega) hmx hbb fresh
      cases hb
      obtain ⟨g2, c2, hv2, _, _, hcell⟩ := row_cell hrow (by
        have := (List.getElem?_eq_some_iff.1 hj).1
        rw [hlen] at this
        rcases Nat.eq_zero_or_pos n with h0 | h0
        · rw [h0] at this; simp at this
        · exact h0)
      rw [hv] at hv2
      cases hv2
      have hh := hcell j u hj
      rw [show Addr.add ⟨g, 0, none⟩ j = ⟨g, j, none⟩ by rw [addr_add, Nat.zero_add]]
      exact hh

end Go.Proofs.YtfmbebofllgmoaaGreatDoor
namespace Go.Proofs.YtfmbebofllgmoaaGreatDoor
open Go.RowKit

theorem Fr.widen {S S' T : Nat → Prop} {w w' : World} (h : Fr S w w' S') (hs : ∀ q, S q → T q) : Fr T w w' T :=
  ⟨h.os, h.tape, h.output, h.size, fun k hk hn => h.same k hk (fun e => hn (hs k e)), fun _ _ h => h⟩
theorem ty_one {w : World} {q : Nat} {a b : Array Value} {s t : Nat} (h1 : w.heap[q]? = some (.cells a s (0, 0))) (h2 : w.heap[q]? = some (.cells b t (0, 0))) : s = t := by
  rw [h1] at h2
  injection h2 with h2
  injection h2
theorem own_ty {w : World} {B e size n q t : Nat} {v : Value} {xs : List Value} {c : Array Value} (h : w.ownsRow B e size v n xs) (hq : w.heap[q]? = some (.cells c t (0, 0))) (ht : t ≠ e) : ¬ own v q := fun ho => by
  obtain ⟨cur, hc⟩ := row_d h ho
  exact ht (ty_one hq hc)
section
variable {w W : World} {B bb : Nat} {n n' : Int} {vI vE vN v' : Value} {LI LE LN : List Ent} {K K2 T : Nat → Prop} {e : Ent}
/-- The Book where blocks that it does not hang on have turned, and its count. -/
theorem BookK.mid (h : BookK w B bb n vI vE vN LI LE LN K) (hf : Fr T w W T) (hT : ∀ q, q < w.heap.size → T q → q = bb ∨ (¬ K q ∧ ¬ own vI q ∧ ¬ own vE q ∧ ¬ own vN q)) (hbb : W.heap[bb]? = some (.cells #[.int .i64 n', vI, vE, vN] 65)) : BookK W B bb n' vI vE vN LI LE LN K := by
  have rI : ∀ q, own vI q → W.heap[q]? = w.heap[q]? := fun q hq => hf.same q (World.ownsRow.lt h.bk.rI q hq).2 (fun ht => by
    rcases hT q (World.ownsRow.lt h.bk.rI q hq).2 ht with rfl | hh
    · exact own_ty h.bk.rI h.bk.blk (by decide) hq
    · exact hh.2.1 hq)
  have rE : ∀ q, own vE q → W.heap[q]? = w.heap[q]? := fun q hq => hf.same q (World.ownsRow.lt h.bk.rE q hq).2 (fun ht => by
    rcases hT q (World.ownsRow.lt h.bk.rE q hq).2 ht with rfl | hh
    · exact own_ty h.bk.rE h.bk.blk (by decide) hq
    · exact hh.2.2.1 hq)
  have rN : ∀ q, own vN q → W.heap[q]? = w.heap[q]? := fun q hq => hf.same q (World.ownsRow.lt h.bk.rN q hq).2 (fun ht => by
    rcases hT q (World.ownsRow.lt h.bk.rN q hq).2 ht with rfl | hh
    · exact own_ty h.bk.rN h.bk.blk (by decide) hq
    · exact hh.2.2.2 hq)
  have hk : ∀ q, K q → W.heap[q]? = w.heap[q]? := fun q hq => hf.same q (h.apart q hq).1 (fun ht => by
    rcases hT q (h.apart q hq).1 ht with e | hh
    · exact (h.apart q hq).2.1 e
    · exact hh.1 hq)
  refine ⟨⟨hbb, ownsRow_of_block h.bk.rI rI, ownsRow_of_block h.bk.rE rE, ownsRow_of_block h.bk.rN rN, fun e he => ?_, fun e he => ?_, fun e he => ?_⟩, h.lI, h.lE, h.lN, fun q hq => ⟨Nat.lt_of_lt_of_le (h.apart q hq).1 hf.size, (h.apart q hq).2⟩⟩
  · obtain ⟨f1, f2, f3, f4⟩ := h.bk.fI e he
    obtain ⟨l1, l2, l3, l4⟩ := h.lI e he
    exact ⟨f1.keep l1 hk, f2.keep l2 hk, f3.keep l3 hk, f4.keep l4 hk⟩
  · obtain ⟨f1, f2, f3, f4⟩ := h.bk.fE e he
    obtain ⟨l1, l2, l3, l4⟩ := h.lE e he
    exact ⟨f1.keep l1 hk, f2.keep l2 hk, f3.keep l3 hk, f4.keep l4 hk⟩
  · obtain ⟨f1, f2, f3, f4⟩ := h.bk.fN e he
    obtain ⟨l1, l2, l3, l4⟩ := h.lN e he
    exact ⟨f1.keep l1 hk, f2.keep l2 hk, f3.keep l3 hk, f4.keep l4 hk⟩
/-- One more list of kind E. -/
theorem BookK.addE (h : BookK w B bb n vI vE vN LI LE LN K) (hfull : FullE w e.l e.m ∧ FullE w e.a e.m ∧ FullE w e.b e.m ∧ FullE w e.c e.m) (hl : LiesIn e.l K2 ∧ LiesIn e.a K2 ∧ LiesIn e.b K2 ∧ LiesIn e.c K2) (hk2 : ∀ q, K2 q → ∃ cur, w.heap[q]? = some (.cells cur 72 (0, 0)))
    (hr : W.ownsRow B 108 5 v' (LE.length + 1) (flat5 LE ++ [e.l, e.a, e.b, e.c, .int .i64 e.m])) (hf : Fr (own vE) w W (own v')) : BookK (W.setCell ⟨bb, 2, none⟩ v') B bb n vI v' vN LI (LE ++ [e]) LN (fun q => K q ∨ K2 q) := by
  have hbl := (Array.getElem?_eq_some_iff.1 h.bk.blk).1
  have hbn : ¬ own vE bb := own_ty h.bk.rE h.bk.blk (by decide)
  have hbW : W.heap[bb]? = some (.cells #[.int .i64 n, vI, vE, vN] 65) := (hf.same bb hbl hbn).trans h.bk.blk
  have hsz : (W.setCell ⟨bb, 2, none⟩ v').heap.size = W.heap.size := by simp [World.setCell]
  have kq : ∀ q, q ≠ bb → (W.setCell ⟨bb, 2, none⟩ v').heap[q]? = W.heap[q]? := fun q hq => Below.heap_setCell _ _ _ _ hq
  have keepq : ∀ q, q < w.heap.size → ¬ own vE q → q ≠ bb → (W.setCell ⟨bb, 2, none⟩ v').heap[q]? = w.heap[q]? := fun q h1 h2 h3 => (kq q h3).trans (hf.same q h1 h2)
  have rI : ∀ q, own vI q → (W.setCell ⟨bb, 2, none⟩ v').heap[q]? = w.heap[q]? := fun q hq => by
    obtain ⟨cur, hc⟩ := row_d h.bk.rI hq
    exact keepq q (World.ownsRow.lt h.bk.rI q hq).2 (own_ty h.bk.rE hc (by decide)) (fun e => own_ty h.bk.rI h.bk.blk (by decide) (e ▸ hq))
  have rN : ∀ q, own vN q → (W.setCell ⟨bb, 2, none⟩ v').heap[q]? = w.heap[q]? := fun q hq => by
    obtain ⟨cur, hc⟩ := row_d h.bk.rN hq
    exact keepq q (World.ownsRow.lt h.bk.rN q hq).2 (own_ty h.bk.rE hc (by decide)) (fun e => own_ty h.bk.rN h.bk.blk (by decide) (e ▸ hq))
  have hrow : (W.setCell ⟨bb, 2, none⟩ v').ownsRow B 108 5 v' (LE ++ [e]).length (flat5 (LE ++ [e])) := by
    rw [flat5_append, List.length_append]
    exact ownsRow_of_block hr (fun q hq => kq q (fun e => own_ty hr hbW (by decide) (e ▸ hq)))
  have hk : ∀ q, K q → (W.setCell ⟨bb, 2, none⟩ v').heap[q]? = w.heap[q]? := fun q hq => keepq q (h.apart q hq).1 (h.apart q hq).2.2.2.1 (h.apart q hq).2.1
  have a2 : ∀ q, K2 q → q < w.heap.size ∧ q ≠ bb ∧ ¬ own vI q ∧ ¬ own vE q ∧ ¬ own vN q := fun q hq => by
    obtain ⟨cur, hc⟩ := hk2 q hq
    exact ⟨(Array.getElem?_eq_some_iff.1 hc).1, fun e => absurd (ty_one (e ▸ hc) h.bk.blk) (by decide), own_ty h.bk.rI hc (by decide), own_ty h.bk.rE hc (by decide), own_ty h.bk.rN hc (by decide)⟩
  have hk2' : ∀ q, K2 q → (W.setCell ⟨bb, 2, none⟩ v').heap[q]? = w.heap[q]? := fun q hq => keepq q (a2 q hq).1 (a2 q hq).2.2.2.1 (a2 q hq).2.1
  have hset := setCell_row W bb 2 _ 65 v' hbW
  have fold : ∀ {P : World → Value → Int → Prop} {L : List Ent}, (∀ v m, P w v m → LiesIn v K → P (W.setCell ⟨bb, 2, none⟩ v') v m) → (∀ e, e ∈ L → P w e.l e.m ∧ P w e.a e.m ∧ P w e.b e.m ∧ P w e.c e.m) → (∀ e, e ∈ L → LiesIn e.l K ∧ LiesIn e.a K ∧ LiesIn e.b K ∧ LiesIn e.c K) → ∀ e, e ∈ L → P (W.setCell ⟨bb, 2, none⟩ v') e.l e.m ∧ P (W.setCell ⟨bb, 2, none⟩ v') e.a e.m ∧ P (W.setCell ⟨bb, 2, none⟩ v') e.b e.m ∧ P (W.setCell ⟨bb, 2, none⟩ v') e.c e.m := fun hp hf hl e he =>
    ⟨hp _ _ (hf e he).1 (hl e he).1, hp _ _ (hf e he).2.1 (hl e he).2.1, hp _ _ (hf e he).2.2.1 (hl e he).2.2.1, hp _ _ (hf e he).2.2.2 (hl e he).2.2.2⟩
  have gI := fold (P := FullI) (fun v m hp hl => hp.keep hl hk) h.bk.fI h.lI
  have gE := fold (P := FullE) (fun v m hp hl => hp.keep hl hk) h.bk.fE h.lE
  have gN := fold (P := FullN) (fun v m hp hl => hp.keep hl hk) h.bk.fN h.lN
  have lift : ∀ {L : List Ent}, (∀ e, e ∈ L → LiesIn e.l K ∧ LiesIn e.a K ∧ LiesIn e.b K ∧ LiesIn e.c K) → ∀ e, e ∈ L → LiesIn e.l (fun q => K q ∨ K2 q) ∧ LiesIn e.a (fun q => K q ∨ K2 q) ∧ LiesIn e.b (fun q => K q ∨ K2 q) ∧ LiesIn e.c (fun q => K q ∨ K2 q) := fun hl e he =>
    ⟨(hl e he).1.mono fun _ => .inl, (hl e he).2.1.mono fun _ => .inl, (hl e he).2.2.1.mono fun _ => .inl, (hl e he).2.2.2.mono fun _ => .inl⟩
  have gE' : ∀ x, x ∈ LE ++ [e] → FullE (W.setCell ⟨bb, 2, none⟩ v') x.l x.m ∧ FullE (W.setCell ⟨bb, 2, none⟩ v') x.a x.m ∧ FullE (W.setCell ⟨bb, 2, none⟩ v') x.b x.m ∧ FullE (W.setCell ⟨bb, 2, none⟩ v') x.c x.m := fun x hx => by
    rcases List.mem_append.1 hx with hx | hx
    · exact gE x hx
    · rw [List.mem_singleton] at hx
      subst hx
      exact ⟨hfull.1.keep hl.1 hk2', hfull.2.1.keep hl.2.1 hk2', hfull.2.2.1.keep hl.2.2.1 hk2', hfull.2.2.2.keep hl.2.2.2 hk2'⟩
  have lE' : ∀ x, x ∈ LE ++ [e] → LiesIn x.l (fun q => K q ∨ K2 q) ∧ LiesIn x.a (fun q => K q ∨ K2 q) ∧ LiesIn x.b (fun q => K q ∨ K2 q) ∧ LiesIn x.c (fun q => K q ∨ K2 q) := fun x hx => by
    rcases List.mem_append.1 hx with hx | hx
    · exact lift h.lE x hx
    · rw [List.mem_singleton] at hx
      subst hx
      exact ⟨hl.1.mono fun _ => .inr, hl.2.1.mono fun _ => .inr, hl.2.2.1.mono fun _ => .inr, hl.2.2.2.mono fun _ => .inr⟩
  have nv : ∀ q, q < w.heap.size → ¬ own vE q → ¬ own v' q := fun q hq hn hv => hn (hf.old q hq hv)
  refine ⟨⟨hset, ownsRow_of_block h.bk.rI rI, hrow, ownsRow_of_block h.bk.rN rN, gI, gE', gN⟩, lift h.lI, lE', lift h.lN, fun q hq => ?_⟩
  rw [hsz]
  rcases hq with hq | hq
  · obtain ⟨x0, x1, x2, x3, x4⟩ := h.apart q hq
    exact ⟨Nat.lt_of_lt_of_le x0 hf.size, x1, x2, nv q x0 x3, x4⟩
  · obtain ⟨x0, x1, x2, x3, x4⟩ := a2 q hq
    exact ⟨Nat.lt_of_lt_of_le x0 hf.size, x1, x2, nv q x0 x3, x4⟩
end
theorem step_grown {ops : Array Oper} {o : Oper} {a : Act} {K : Act → World → Prop} {Q : Exit → Act → World → Prop} {E' : Prop} {w : World} {B t e size bytes d : Nat} (hd : o.dst = some d) (E : Elem t e size bytes) (hs0 : 0 < size) (hs1 : bytes ≤ 140) {v : Value} {n m : Nat} {xs news : List Value} (hgd : o.guard = none) (sv xv : Operand)
    (ho : o.op = .call { callee := .builtin .append, args := #[sv, xv], argTypes := #[t, t] }) {ad : Addr} {cap : Nat} (hs : a.eval sv = v) (hx : a.eval xv = .slice (some ad) m cap) (hrow : w.ownsRow B e size v n xs) (hl : news.length = m * size)
    (hc : ∀ j u, news[j]? = some u → w.cell? (ad.add j) = some u) (h1 : ∀ u ∈ news, u.oneCell' = true) (hm : 0 < m) (hn : n + m ≤ 1000000000000) (hB : B ≤ w.heap.size)
    (h : ∀ v' w', w'.ownsRow B e size v' (n + m) (xs ++ news) → Fr (own v) w w' (own v') → (∃ a c, v' = .slice a (n + m) c) → K ⟨a.tmps.setIfInBounds d v', a.defers⟩ w') : if Region.wanted o (yielded ops a.tmps) = true then Oper.wp Tryz.prog o a w K Q else E' := by
  obtain ⟨i, z, hi, hz, hsz, hby, hzc⟩ := E.i
  have hmx : n + m ≤ maxLen := by simp only [maxLen]; omega
  have hbb : (n + m) * bytes ≤ 140737488355328 := Nat.le_trans (Nat.mul_le_mul hn hs1) (by omega)
  refine step_append_lies _ hgd sv xv t ho B e i z size bytes E.u hi hz hsz hby hzc hs0 v n xs hs hrow ad m cap news hx hl hc h1 hm hmx hbb hB w.heap.size rfl ?_
  intro g cp w' h1 h2 h3 h4
  have hh := h _ w' h1 (grow_fr h2 h3) ⟨_, _, rfl⟩
  rw [hd]
  exact hh
end Go.Proofs.YtfmbebofllgmoaaGreatDoor
namespace Go.Proofs.YtfmbebofllgmoaaGreatDoor
open Go.RowKit
attribute [local go_sem ↓] Go.wp_at_zero Go.wp_at_succ

theorem elemA : Elem 178 210 3 24 := elem_of _ _ _ _ (.agg #[.int .i64 0, .int .i64 0, .int .i64 0]) Tryz.underlying178 (by kernel_rfl) rfl
theorem Fr.more {S : Nat → Prop} {w w' w'' : World} {v v' : Value} (h : Fr S w w' S) (hg : Fr (own v) w' w'' (own v')) (hv : ∀ q, own v q → w.heap.size ≤ q) : Fr S w w'' S :=
  ⟨hg.os.trans h.os, hg.tape.trans h.tape, hg.output.trans h.output, Nat.le_trans h.size hg.size, fun k hk hn => (hg.same k (Nat.lt_of_lt_of_le hk h.size) (fun e => by have := hv k e; omega)).trans (h.same k hk hn), fun _ _ h => h⟩
/-- An armed timer's cells. -/
theorem at_cells {w : World} {B : Nat} {v : Value} {A : List AT} (h : w.ownsRow B 210 3 v A.length (flatA A)) {i : Nat} {p : AT} (hi : A[i]? = some p) : ∃ g c, v = .slice (some ⟨g, 0, none⟩) A.length c ∧ w.cell? ⟨g, i * 3, none⟩ = some (.int .i64 p.1.2.2.2) ∧ w.cell? ⟨g, i * 3 + 1, none⟩ = some (.int .i64 p.1.2.1) ∧ w.cell? ⟨g, i * 3 + 2, none⟩ = some (.int .i64 p.2) := by
  obtain ⟨g, c, hv, _, _, hc⟩ := row_cell h (by have := (List.getElem?_eq_some_iff.1 hi).1; omega)
  obtain ⟨g0, g1, g2⟩ := flatA_get A i p hi
  exact ⟨g, c, hv, hc _ _ g0, hc _ _ g1, hc _ _ g2⟩

section
variable {σ : Type} {SQ : (Nat → Value) → (Nat → Prop) → World → σ → Prop} {B : Nat} {S T : Nat → Prop} {w : World} {b : Nat} {pv : Nat → Value} {vt va : Value} {s : PS} {A : List AT} {tn sq : Int} {x : σ}

/-- The loop in memory, its armed timers laid anew. -/
def LPostA (SQ : (Nat → Value) → (Nat → Prop) → World → σ → Prop) (B : Nat) (S : Nat → Prop) (w : World) (b : Nat) (pv : Nat → Value) (vt : Value) (T : Nat → Prop) (tn sq : Int) (s : PS) (A : List AT) (x : σ) (w' : World) : Prop :=
  ∃ S' va', LQ SQ B S' w' b pv vt va' T s A tn sq x ∧ Fr S w w' S'
def cutA (A : List AT) (z : Int) : List AT := A.filter fun p => decide (p.1.2.2.2 ≠ z)
theorem cutA_take (A : List AT) (z : Int) (k : Nat) (p : AT) (h : A[k]? = some p) : cutA (A.take (k + 1)) z = cutA (A.take k) z ++ (if p.1.2.2.2 = z then [] else [p]) := by
  unfold cutA
  rw [List.take_add_one, h, List.filter_append]
  by_cases e : p.1.2.2.2 = z <;> simp [e]
theorem cutA_len (A : List AT) (z : Int) : (cutA A z).length ≤ A.length := List.length_filter_le _ _

set_option maxHeartbeats 1000000 in
theorem cancelQ_any (L : SQLaw SQ B) (h : LQ SQ B S w b pv vt va T s A tn sq x) (z : Int) (hz : 0 ≤ z) (ha : s.armings ≤ 5000) :
    Calls Tryz.prog 140 #[.pointer (some ⟨b, 0, none⟩), .int .i64 z] w fun e w' => e = .returned (.tuple #[]) ∧ LPostA SQ B S w b pv vt T tn sq { s with tim := upd s.tim z.toNat (false, (s.tim z.toNat).2) } (cutA A z) x w' := by
  obtain ⟨aa, ca, rfl⟩ := row_shape h.arow
  have hlen : A.length ≤ 5000 := by have := h.rel.len; omega
  have hb := h.blt
  have H := hide h
  have HB := hide h.below
  clear h
  go_enter Tryz.func140, Tryz.ntmps140
  go_wp2
  go_loopw [4, 5] (fun l i wr => ∃ k : Nat, k ≤ A.length ∧ i = .int .i64 k ∧ ∃ la lc, l = .slice la (cutA (A.take k) z).length lc ∧ Hid (wr.ownsRow w.heap.size 210 3 (.slice la (cutA (A.take k) z).length lc) (cutA (A.take k) z).length (flatA (cutA (A.take k) z)) ∧ Fr (fun _ => False) w wr (fun _ => False))) (fun _ i _ => A.length - (intOf i).toNat)
  case atStart => exact ⟨0, Nat.zero_le _, rfl, none, 0, rfl, World.ownsRow_nil _ _ _ _, Fr.refl _ _⟩
  case round =>
    obtain ⟨k, hk, rfl, la, lc, rfl, hh⟩ := hrel
    have hbr : b < wr.heap.size := Nat.lt_of_lt_of_le hb (unhide hh).2.size
    have hr := (unhide H).fr L (unhide hh).2
    have c16 := (hr.cell 16 (by omega)).trans (by rw [limg_armed])
    have z16 := hr.free 16 (by omega)
    by_cases hlt : k < A.length
    · obtain ⟨p, hp⟩ : ∃ p, A[k]? = some p := ⟨_, List.getElem?_eq_getElem hlt⟩
      obtain ⟨g, cg, hv, q0, q1, q2⟩ := at_cells hr.arow hp
      injection hv with hv hv2 hv3
      subst hv
      clear hv2 hv3
      have hk0 : (0 : Int) ≤ (k : Int) := by omega
      have hk1 : (k : Int) < (A.length : Int) := by omega
      have hgl := World.block_lt_of_cell? _ _ q0
      have htk := cutA_take A z k p hp
      have hle : (cutA (A.take k) z).length ≤ 5000 := by have := cutA_len (A.take k) z; rw [List.length_take] at this; omega
      have HTK := hide htk
      have HH := hide (unhide hh)
      clear hr hh htk hp
      by_cases e : p.1.2.2.2 = z
      · have e' : (p.1.2.2.2 != z) = false := by simp [e]
        go_wp2
        go_roundw
        case rel =>
          refine ⟨k + 1, by omega, by go_num, la, lc, ?_⟩
          rw [unhide HTK, if_pos e, List.append_nil]
          exact ⟨rfl, HH⟩
        case measure => simp [intOf]; omega
      · have e' : (p.1.2.2.2 != z) = true := by simp [e]
        have nb := heap_alloc_new wr (.cells #[.int .i64 p.1.2.2.2, .int .i64 p.1.2.1, .int .i64 p.2] 210)
        have NB := hide nb
        have RA := hide (World.ownsRow.alloc (unhide HH).1 (.cells #[.int .i64 p.1.2.2.2, .int .i64 p.1.2.1, .int .i64 p.2] 210))
        have hwz : w.heap.size ≤ (wr.alloc (.cells #[.int .i64 p.1.2.2.2, .int .i64 p.1.2.1, .int .i64 p.2] 210)).heap.size := by have := (unhide HH).2.size; simp; omega
        clear nb
        go_wp2_with (at_builtin; refine wpList_grow elemA (by omega) (by omega) (B := w.heap.size) (n := (cutA (A.take k) z).length) (m := 1) (xs := flatA (cutA (A.take k) z)) (news := [.int .i64 p.1.2.2.2, .int .i64 p.1.2.1, .int .i64 p.2]) rfl (.tmp 25) (.tmp 33) rfl (ad := ⟨wr.heap.size, 0, none⟩) (cap := 1) rfl rfl (unhide RA) rfl (World.news_of_block (unhide NB)) (by simp [Value.oneCell']) (by omega) (by omega) hwz ?_; intro v3 w3 o3 f3 sh3; obtain ⟨av, cv, rfl⟩ := sh3; have O3 := hide o3; have F3 := hide f3; clear o3 f3)
        go_roundw
        case rel =>
          refine ⟨k + 1, by omega, by go_num, av, cv, ?_⟩
          rw [unhide HTK, if_neg e, List.length_append, flatA_append]
          exact ⟨rfl, unhide O3, Fr.more ((unhide HH).2.alloc _) (unhide F3) (fun q hq => (World.ownsRow.lt (unhide HH).1 q hq).1)⟩
        case measure => simp [intOf]; omega
    · have hkl : k = A.length := by omega
      subst hkl
      have hk1 : ¬ (A.length : Int) < (A.length : Int) := by omega
      rw [List.take_length] at hh ⊢
      have hwf := (unhide hh).2
      have hfin := (unhide H).setArmed L (A' := cutA A z) (s' := { s with tim := upd s.tim z.toNat (false, (s.tim z.toNat).2) }) (rowLow (unhide hh).1 (unhide HB)) (w1 := wr) ⟨hwf.os, hwf.tape, hwf.output, hwf.size, fun k hk _ => hwf.same k hk (fun h => h), fun q hq hv => absurd (World.ownsRow.lt (unhide hh).1 q hv).1 (by omega)⟩ ((unhide H).rel.cancel z hz) rfl rfl rfl rfl rfl rfl rfl
      have HF := hide hfin
      clear hr hh hfin hwf
      go_wp2
      go_end0
      exact ⟨rfl, _, _, (unhide HF).1, (unhide HF).2⟩
end
end Go.Proofs.YtfmbebofllgmoaaGreatDoor
namespace Go.Proofs.YtfmbebofllgmoaaGreatDoor
open Go.RowKit
attribute [local go_sem ↓] Go.wp_at_zero Go.wp_at_succ
section
variable {σ : Type} {SQ : (Nat → Value) → (Nat → Prop) → World → σ → Prop} {B : Nat} {S T : Nat → Prop} {w : World} {b : Nat} {pv : Nat → Value} {vt va : Value} {s : PS} {A : List AT} {tn sq : Int} {x : σ}
set_option maxHeartbeats 2000000 in
theorem armQ_any (L : SQLaw SQ B) (h : LQ SQ B S w b pv vt va T s A tn sq x) (z v : Int) (hz : 0 ≤ z) (hz8 : z < 8) (ha : s.armings ≤ 5000) (hc : 0 ≤ s.clock ∧ s.clock ≤ 1099511627776) :
    Calls Tryz.prog 139 #[.pointer (some ⟨b, 0, none⟩), .int .i64 z, .int .i64 v] w fun e w' => e = .returned (.tuple #[]) ∧ LPostA SQ B S w b pv vt T tn sq { s with armings := s.armings + 1, tim := upd s.tim z.toNat (true, s.clock + min (max v 0) (1099511627776 - s.clock), s.armings + 1, z) } (cutA A z ++ [((true, s.clock + min (max v 0) (1099511627776 - s.clock), s.armings + 1, z), tn)]) x w' := by
  obtain ⟨c0, c1⟩ := hc
  have hrel := h.rel.arm z (s.clock + min (max v 0) (1099511627776 - s.clock)) hz hz8
  have hlen : (cutA A z).length ≤ 5000 := by have := h.rel.len; have := cutA_len A z; omega
  obtain ⟨at_, hat⟩ : ∃ at_, s.clock + min (max v 0) (1099511627776 - s.clock) = at_ := ⟨_, rfl⟩
  rw [hat] at hrel ⊢
  have HAT := hide hat
  have HR := hide hrel
  have HC := hide (cancelQ_any L h z hz ha)
  clear h hrel hat
  go_enter Tryz.func139, Tryz.ntmps139
  go_wp2_with fail
  go_at_call 140
  refine (unhide HC).mono ?_
  rintro e w1 ⟨rfl, S1, va1, h1, f1⟩
  obtain ⟨aa, ca, rfl⟩ := row_shape h1.arow
  have k14 := (h1.cell 14 (by omega)).trans (by rw [limg_clock])
  have k15 := (h1.cell 15 (by omega)).trans (by rw [limg_turn])
  have k16 := (h1.cell 16 (by omega)).trans (by rw [limg_armed])
  have z16 := h1.free 16 (by omega)
  have hb := h1.blt
  have H1 := hide h1
  have F1 := hide f1
  clear h1 f1 HC
  have kq : ∀ o, (w1.alloc o).drew.cell? ⟨b, 15, none⟩ = some (.int .i64 tn) := fun o => (((unhide H1).fr L ((Fr.refl _ _).alloc o).drew).cell 15 (by omega)).trans (by rw [limg_turn])
  have kq16 : ∀ o, (w1.alloc o).drew.cell? ⟨b, 16, none⟩ = some (.slice aa (cutA A z).length ca) := fun o => (((unhide H1).fr L ((Fr.refl _ _).alloc o).drew).cell 16 (by omega)).trans (by rw [limg_armed])
  by_cases hlt : v < 1099511627776 - s.clock
  · have e1 : s.clock + max v 0 = at_ := by have := unhide HAT; omega
    go_wp2
    clear e1
    refine wp_region_held_drew (S := fun w' => w'.cell? ⟨b, 15, none⟩ = some (.int .i64 tn)) (by kernel_rfl) ?_ (fun hHeld => ?_)
    · exact k15
    refine wpAnyH_take (i := 0) (oi := { dst := some 24, op := Op.move (Operand.tmp 0), type := 177, pos := "run.go:202", after := #[], guard := none }) (v := ?_) rfl (by kernel_rfl) (by kernel_rfl) (by kernel_rfl) (fun _ _ _ h => h) (Or.inl ⟨by rfl, ?_⟩) (by assumption) ?_
    rotate_left
    · intro w hSw; (try dsimp only at hSw); go_simp; try with_reducible rfl
    simp only [Act.put, List.setIfInBounds_toArray, List.set_cons_zero, List.set_cons_succ]
    refine wpAnyH_take (i := 1) (oi := { dst := some 25, op := Op.move (Operand.tmp 0), type := 177, pos := "run.go:202", after := #[], guard := none }) (v := ?_) rfl (by kernel_rfl) (by kernel_rfl) (by kernel_rfl) (fun _ _ _ h => h) (Or.inl ⟨by rfl, ?_⟩) (by assumption) ?_
    rotate_left
    · intro w hSw; (try dsimp only at hSw); go_simp; try with_reducible rfl
    simp only [Act.put, List.setIfInBounds_toArray, List.set_cons_zero, List.set_cons_succ]
    refine wpAnyH_take (i := 2) (oi := { dst := some 26, op := Op.nilCheck (Operand.tmp 25), type := 0, pos := "run.go:202", after := #[{ on := 1, ground := Ground.data }], guard := none }) (v := ?_) rfl (by kernel_rfl) (by kernel_rfl) (by kernel_rfl) (fun _ _ _ h => h) (Or.inl ⟨by rfl, ?_⟩) (by assumption) ?_
    rotate_left
    · intro w hSw; (try dsimp only at hSw); go_simp; try with_reducible rfl
    simp only [Act.put, List.setIfInBounds_toArray, List.set_cons_zero, List.set_cons_succ]
    refine wpAnyH_take (i := 3) (oi := { dst := some 27, op := Op.fieldAddr 180 (Operand.tmp 26) 8, type := 0, pos := "run.go:202", after := #[{ on := 2, ground := Ground.data }], guard := none }) (v := ?_) rfl (by kernel_rfl) (by kernel_rfl) (by kernel_rfl) (fun _ _ _ h => h) (Or.inl ⟨by rfl, ?_⟩) (by assumption) ?_
    rotate_left
    · intro w hSw; (try dsimp only at hSw); go_simp; try with_reducible rfl
    simp only [Act.put, List.setIfInBounds_toArray, List.set_cons_zero, List.set_cons_succ]
    refine wpAnyH_take (i := 5) (oi := { dst := some 29, op := Op.move (Operand.tmp 1), type := 3, pos := "run.go:202", after := #[], guard := none }) (v := ?_) rfl (by kernel_rfl) (by kernel_rfl) (by kernel_rfl) (fun _ _ _ h => h) (Or.inl ⟨by rfl, ?_⟩) (by assumption) ?_
    rotate_left
    · intro w hSw; (try dsimp only at hSw); go_simp; try with_reducible rfl
    simp only [Act.put, List.setIfInBounds_toArray, List.set_cons_zero, List.set_cons_succ]
    refine wpAnyH_take (i := 6) (oi := { dst := some 30, op := Op.move (Operand.tmp 6), type := 3, pos := "run.go:202", after := #[], guard := none }) (v := ?_) rfl (by kernel_rfl) (by kernel_rfl) (by kernel_rfl) (fun _ _ _ h => h) (Or.inl ⟨by rfl, ?_⟩) (by assumption) ?_
    rotate_left
    · intro w hSw; (try dsimp only at hSw); go_simp; try with_reducible rfl
    simp only [Act.put, List.setIfInBounds_toArray, List.set_cons_zero, List.set_cons_succ]
    refine wpAnyH_take (i := 7) (oi := { dst := some 31, op := Op.move (Operand.tmp 0), type := 177, pos := "run.go:202", after := #[], guard := none }) (v := ?_) rfl (by kernel_rfl) (by kernel_rfl) (by kernel_rfl) (fun _ _ _ h => h) (Or.inl ⟨by rfl, ?_⟩) (by assumption) ?_
    rotate_left
    · intro w hSw; (try dsimp only at hSw); go_simp; try with_reducible rfl
    simp only [Act.put, List.setIfInBounds_toArray, List.set_cons_zero, List.set_cons_succ]
    refine wpAnyH_take (i := 8) (oi := { dst := some 32, op := Op.nilCheck (Operand.tmp 31), type := 0, pos := "run.go:202", after := #[{ on := 7, ground := Ground.data }], guard := none }) (v := ?_) rfl (by kernel_rfl) (by kernel_rfl) (by kernel_rfl) (fun _ _ _ h => h) (Or.inl ⟨by rfl, ?_⟩) (by assumption) ?_
    rotate_left
    · intro w hSw; (try dsimp only at hSw); go_simp; try with_reducible rfl
    simp only [Act.put, List.setIfInBounds_toArray, List.set_cons_zero, List.set_cons_succ]
    refine wpAnyH_take (i := 9) (oi := { dst := some 33, op := Op.fieldAddr 180 (Operand.tmp 32) 7, type := 0, pos := "run.go:202", after := #[{ on := 8, ground := Ground.data }], guard := none }) (v := ?_) rfl (by kernel_rfl) (by kernel_rfl) (by kernel_rfl) (fun _ _ _ h => h) (Or.inl ⟨by rfl, ?_⟩) (by assumption) ?_
    rotate_left
    · intro w hSw; (try dsimp only at hSw); go_simp; try with_reducible rfl
    simp only [Act.put, List.setIfInBounds_toArray, List.set_cons_zero, List.set_cons_succ]
    refine wpAnyH_take (i := 10) (oi := { dst := some 34, op := Op.load 3 (Operand.tmp 33), type := 3, pos := "run.go:202", after := #[{ on := 9, ground := Ground.data }], guard := none }) (v := ?_) rfl (by kernel_rfl) (by kernel_rfl) (by kernel_rfl) (fun _ _ _ h => h) (Or.inl ⟨by rfl, ?_⟩) (by assumption) ?_
    rotate_left
    · intro w hSw; (try dsimp only at hSw); go_simp; try with_reducible rfl
    simp only [Act.put, List.setIfInBounds_toArray, List.set_cons_zero, List.set_cons_succ]
    refine wpAnyH_take (i := 11) (oi := { dst := some 35, op := Op.build 210 #[(0, Operand.tmp 29), (1, Operand.tmp 30), (2, Operand.tmp 34)], type := 210, pos := "run.go:202", after := #[{ on := 5, ground := Ground.data }, { on := 6, ground := Ground.data }, { on := 10, ground := Ground.data }], guard := none }) (v := ?_) rfl (by kernel_rfl) (by kernel_rfl) (by kernel_rfl) (fun _ _ _ h => h) (Or.inl ⟨by rfl, ?_⟩) (by assumption) ?_
    rotate_left
    · intro w hSw; (try dsimp only at hSw); go_simp; try with_reducible rfl
    simp only [Act.put, List.setIfInBounds_toArray, List.set_cons_zero, List.set_cons_succ]
    refine wpAnyH_ready (rs := [4, 12]) (by kernel_rfl) (by simp) ?_
    refine AllReadyH.cons (o := { dst := some 28, op := Op.load 178 (Operand.tmp 27), type := 178, pos := "run.go:202", after := #[{ on := 3, ground := Ground.data }], guard := none }) rfl (fun K' hK' => ?_) (AllReadyH.cons (o := { dst := some 36, op := Op.buildSlice 178 1 #[(0, Operand.tmp 35)], type := 178, pos := "run.go:202", after := #[{ on := 11, ground := Ground.data }], guard := none }) rfl (fun K' hK' => ?_) AllReadyH.nil)
    · go_simp
      refine hK'.out _ _ ?_ (fun hHeld => ?_)
      · exact k15
      clear hK' K'
      try simp only [Act.put, List.setIfInBounds_toArray, List.set_cons_zero, List.set_cons_succ]
      refine wpAnyH_ready (rs := [12]) (by kernel_rfl) (by simp) ?_
      refine AllReadyH.cons (o := { dst := some 36, op := Op.buildSlice 178 1 #[(0, Operand.tmp 35)], type := 178, pos := "run.go:202", after := #[{ on := 11, ground := Ground.data }], guard := none }) rfl (fun K' hK' => ?_) AllReadyH.nil
      go_simp
      refine hK'.out _ _ ?_ (fun hHeld => ?_)
      · exact kq _
      clear hK' K'
      try simp only [Act.put, List.setIfInBounds_toArray, List.set_cons_zero, List.set_cons_succ]
      refine wpAnyH_ready (rs := [13]) (by kernel_rfl) (by simp) ?_
      refine AllReadyH.cons (o := { dst := some 37, op := Op.call { callee := Callee.builtin Builtin.append, args := #[Operand.tmp 28, Operand.tmp 36], argTypes := #[178, 178] }, type := 178, pos := "run.go:202", after := #[{ on := 4, ground := Ground.data }, { on := 12, ground := Ground.data }], guard := none }) rfl (fun K' hK' => ?_) AllReadyH.nil
      refine step_grown (d := 37) rfl elemA (by decide) (by decide) (v := .slice aa (cutA A z).length ca) (n := (cutA A z).length) (m := 1) (xs := flatA (cutA A z)) (news := [.int .i64 z, .int .i64 at_, .int .i64 tn]) (B := B) (ad := ⟨w1.heap.size, 0, none⟩) (cap := 1) rfl (.tmp 28) (.tmp 36) rfl rfl rfl ((unhide H1).fr L ((Fr.refl _ _).alloc (.cells #[.int .i64 z, .int .i64 at_, .int .i64 tn] 210)).drew).arow rfl (World.news_of_block (heap_alloc_new w1 _)) (by simp [Value.oneCell']) (by omega) (by omega) ((unhide H1).fr L ((Fr.refl _ _).alloc (.cells #[.int .i64 z, .int .i64 at_, .int .i64 tn] 210)).drew).below ?_
      intro v3 w3 o3 f3 sh3
      obtain ⟨av, cv, rfl⟩ := sh3
      have h2 := (unhide H1).fr L ((Fr.refl _ _).alloc (.cells #[.int .i64 z, .int .i64 at_, .int .i64 tn] 210)).drew
      have hbs := f3.same b h2.blt (fun e => (h2.inA b e).2.1 rfl)
      have c2 := h2.cells.block hbs
      have gg : w3.cell? ⟨b, 15, none⟩ = some (.int .i64 tn) := (c2 15 (by omega)).1.trans (by rw [limg_turn])
      have pc := (c2 16 (by omega)).1.trans (by rw [limg_armed])
      have pz := (c2 16 (by omega)).2
      have FIN := hide (h2.setArmed L (A' := cutA A z ++ [((true, at_, s.armings + 1, z), tn)]) (s' := { s with armings := s.armings + 1, tim := upd s.tim z.toNat (true, at_, s.armings + 1, z) }) (by rw [List.length_append, flatA_append]; exact o3) f3 (unhide HR) rfl rfl rfl rfl rfl rfl rfl)
      clear o3 f3 h2 hbs c2
      refine hK'.out _ _ gg (fun hHeld => ?_)
      clear hK' K'
      simp only [List.setIfInBounds_toArray, List.set_cons_zero, List.set_cons_succ]
      refine wpAnyH_take (i := 14) (oi := { dst := some 38, op := Op.nilCheck (Operand.tmp 24), type := 0, pos := "run.go:202", after := #[{ on := 0, ground := Ground.data }, { on := 0, ground := Ground.phase }, { on := 1, ground := Ground.phase }, { on := 2, ground := Ground.phase }, { on := 3, ground := Ground.phase }, { on := 4, ground := Ground.phase }, { on := 5, ground := Ground.phase }, { on := 6, ground := Ground.phase }, { on := 7, ground := Ground.phase }, { on := 8, ground := Ground.phase }, { on := 9, ground := Ground.phase }, { on := 10, ground := Ground.phase }, { on := 11, ground := Ground.phase }, { on := 12, ground := Ground.phase }, { on := 13, ground := Ground.phase }], guard := none }) (v := ?_) rfl (by kernel_rfl) (by kernel_rfl) (by kernel_rfl) (fun _ _ _ h => h) (Or.inl ⟨by rfl, ?_⟩) (by assumption) ?_
      rotate_left
      · intro w hSw; (try dsimp only at hSw); go_simp; try with_reducible rfl
      simp only [Act.put, List.setIfInBounds_toArray, List.set_cons_zero, List.set_cons_succ]
      refine wpAnyH_take (i := 15) (oi := { dst := some 39, op := Op.fieldAddr 180 (Operand.tmp 38) 8, type := 0, pos := "run.go:202", after := #[{ on := 14, ground := Ground.data }, { on := 0, ground := Ground.phase }, { on := 1, ground := Ground.phase }, { on := 2, ground := Ground.phase }, { on := 3, ground := Ground.phase }, { on := 4, ground := Ground.phase }, { on := 5, ground := Ground.phase }, { on := 6, ground := Ground.phase }, { on := 7, ground := Ground.phase }, { on := 8, ground := Ground.phase }, { on := 9, ground := Ground.phase }, { on := 10, ground := Ground.phase }, { on := 11, ground := Ground.phase }, { on := 12, ground := Ground.phase }, { on := 13, ground := Ground.phase }], guard := none }) (v := ?_) rfl (by kernel_rfl) (by kernel_rfl) (by kernel_rfl) (fun _ _ _ h => h) (Or.inl ⟨by rfl, ?_⟩) (by assumption) ?_
      rotate_left
      · intro w hSw; (try dsimp only at hSw); go_simp; try with_reducible rfl
      simp only [Act.put, List.setIfInBounds_toArray, List.set_cons_zero, List.set_cons_succ]
      refine wpAnyH_ready (rs := [16]) (by kernel_rfl) (by simp) ?_
      refine AllReadyH.cons (o := { dst := none, op := Op.store 178 (Operand.tmp 39) (Operand.tmp 37), type := 0, pos := "run.go:202", after := #[{ on := 15, ground := Ground.data }, { on := 13, ground := Ground.data }, { on := 13, ground := Ground.chain }, { on := 0, ground := Ground.phase }, { on := 1, ground := Ground.phase }, { on := 2, ground := Ground.phase }, { on := 3, ground := Ground.phase }, { on := 4, ground := Ground.phase }, { on := 5, ground := Ground.phase }, { on := 6, ground := Ground.phase }, { on := 7, ground := Ground.phase }, { on := 8, ground := Ground.phase }, { on := 9, ground := Ground.phase }, { on := 10, ground := Ground.phase }, { on := 11, ground := Ground.phase }, { on := 12, ground := Ground.phase }, { on := 13, ground := Ground.phase }], guard := none }) rfl (fun K' hK' => ?_) AllReadyH.nil
      go_simp
      refine hK'.out _ _ ?_ (fun hHeld => ?_)
      · simp [go_sem, gg]
      clear hK' K'
      try simp only [Act.put, List.setIfInBounds_toArray, List.set_cons_zero, List.set_cons_succ]
      refine wpAnyH_done (by kernel_rfl) ?_ _
      go_wp2
      go_end0
      exact ⟨rfl, _, _, (unhide FIN).1, (unhide F1).trans ((((Fr.refl _ _).alloc (.cells #[.int .i64 z, .int .i64 at_, .int .i64 tn] 210)).drew).trans (unhide FIN).2)⟩
    · go_simp
      refine hK'.out _ _ ?_ (fun hHeld => ?_)
      · exact kq _
      clear hK' K'
      try simp only [Act.put, List.setIfInBounds_toArray, List.set_cons_zero, List.set_cons_succ]
      refine wpAnyH_ready (rs := [4]) (by kernel_rfl) (by simp) ?_
      refine AllReadyH.cons (o := { dst := some 28, op := Op.load 178 (Operand.tmp 27), type := 178, pos := "run.go:202", after := #[{ on := 3, ground := Ground.data }], guard := none }) rfl (fun K' hK' => ?_) AllReadyH.nil
      go_simp
      refine hK'.out _ _ ?_ (fun hHeld => ?_)
      · exact kq _
      clear hK' K'
      try simp only [Act.put, List.setIfInBounds_toArray, List.set_cons_zero, List.set_cons_succ]
      refine wpAnyH_ready (rs := [13]) (by kernel_rfl) (by simp) ?_
      refine AllReadyH.cons (o := { dst := some 37, op := Op.call { callee := Callee.builtin Builtin.append, args := #[Operand.tmp 28, Operand.tmp 36], argTypes := #[178, 178] }, type := 178, pos := "run.go:202", after := #[{ on := 4, ground := Ground.data }, { on := 12, ground := Ground.data }], guard := none }) rfl (fun K' hK' => ?_) AllReadyH.nil
      refine step_grown (d := 37) rfl elemA (by decide) (by decide) (v := .slice aa (cutA A z).length ca) (n := (cutA A z).length) (m := 1) (xs := flatA (cutA A z)) (news := [.int .i64 z, .int .i64 at_, .int .i64 tn]) (B := B) (ad := ⟨w1.heap.size, 0, none⟩) (cap := 1) rfl (.tmp 28) (.tmp 36) rfl rfl rfl ((unhide H1).fr L ((Fr.refl _ _).alloc (.cells #[.int .i64 z, .int .i64 at_, .int .i64 tn] 210)).drew).arow rfl (World.news_of_block (heap_alloc_new w1 _)) (by simp [Value.oneCell']) (by omega) (by omega) ((unhide H1).fr L ((Fr.refl _ _).alloc (.cells #[.int .i64 z, .int .i64 at_, .int .i64 tn] 210)).drew).below ?_
      intro v3 w3 o3 f3 sh3
      obtain ⟨av, cv, rfl⟩ := sh3
      have h2 := (unhide H1).fr L ((Fr.refl _ _).alloc (.cells #[.int .i64 z, .int .i64 at_, .int .i64 tn] 210)).drew
      have hbs := f3.same b h2.blt (fun e => (h2.inA b e).2.1 rfl)
      have c2 := h2.cells.block hbs
      have gg : w3.cell? ⟨b, 15, none⟩ = some (.int .i64 tn) := (c2 15 (by omega)).1.trans (by rw [limg_turn])
      have pc := (c2 16 (by omega)).1.trans (by rw [limg_armed])
      have pz := (c2 16 (by omega)).2
      have FIN := hide (h2.setArmed L (A' := cutA A z ++ [((true, at_, s.armings + 1, z), tn)]) (s' := { s with armings := s.armings + 1, tim := upd s.tim z.toNat (true, at_, s.armings + 1, z) }) (by rw [List.length_append, flatA_append]; exact o3) f3 (unhide HR) rfl rfl rfl rfl rfl rfl rfl)
      clear o3 f3 h2 hbs c2
      refine hK'.out _ _ gg (fun hHeld => ?_)
      clear hK' K'
      simp only [List.setIfInBounds_toArray, List.set_cons_zero, List.set_cons_succ]
      refine wpAnyH_take (i := 14) (oi := { dst := some 38, op := Op.nilCheck (Operand.tmp 24), type := 0, pos := "run.go:202", after := #[{ on := 0, ground := Ground.data }, { on := 0, ground := Ground.phase }, { on := 1, ground := Ground.phase }, { on := 2, ground := Ground.phase }, { on := 3, ground := Ground.phase }, { on := 4, ground := Ground.phase }, { on := 5, ground := Ground.phase }, { on := 6, ground := Ground.phase }, { on := 7, ground := Ground.phase }, { on := 8, ground := Ground.phase }, { on := 9, ground := Ground.phase }, { on := 10, ground := Ground.phase }, { on := 11, ground := Ground.phase }, { on := 12, ground := Ground.phase }, { on := 13, ground := Ground.phase }], guard := none }) (v := ?_) rfl (by kernel_rfl) (by kernel_rfl) (by kernel_rfl) (fun _ _ _ h => h) (Or.inl ⟨by rfl, ?_⟩) (by assumption) ?_
      rotate_left
      · intro w hSw; (try dsimp only at hSw); go_simp; try with_reducible rfl
      simp only [Act.put, List.setIfInBounds_toArray, List.set_cons_zero, List.set_cons_succ]
      refine wpAnyH_take (i := 15) (oi := { dst := some 39, op := Op.fieldAddr 180 (Operand.tmp 38) 8, type := 0, pos := "run.go:202", after := #[{ on := 14, ground := Ground.data }, { on := 0, ground := Ground.phase }, { on := 1, ground := Ground.phase }, { on := 2, ground := Ground.phase }, { on := 3, ground := Ground.phase }, { on := 4, ground := Ground.phase }, { on := 5, ground := Ground.phase }, { on := 6, ground := Ground.phase }, { on := 7, ground := Ground.phase }, { on := 8, ground := Ground.phase }, { on := 9, ground := Ground.phase }, { on := 10, ground := Ground.phase }, { on := 11, ground := Ground.phase }, { on := 12, ground := Ground.phase }, { on := 13, ground := Ground.phase }], guard := none }) (v := ?_) rfl (by kernel_rfl) (by kernel_rfl) (by kernel_rfl) (fun _ _ _ h => h) (Or.inl ⟨by rfl, ?_⟩) (by assumption) ?_
      rotate_left
      · intro w hSw; (try dsimp only at hSw); go_simp; try with_reducible rfl
      simp only [Act.put, List.setIfInBounds_toArray, List.set_cons_zero, List.set_cons_succ]
      refine wpAnyH_ready (rs := [16]) (by kernel_rfl) (by simp) ?_
      refine AllReadyH.cons (o := { dst := none, op := Op.store 178 (Operand.tmp 39) (Operand.tmp 37), type := 0, pos := "run.go:202", after := #[{ on := 15, ground := Ground.data }, { on := 13, ground := Ground.data }, { on := 13, ground := Ground.chain }, { on := 0, ground := Ground.phase }, { on := 1, ground := Ground.phase }, { on := 2, ground := Ground.phase }, { on := 3, ground := Ground.phase }, { on := 4, ground := Ground.phase }, { on := 5, ground := Ground.phase }, { on := 6, ground := Ground.phase }, { on := 7, ground := Ground.phase }, { on := 8, ground := Ground.phase }, { on := 9, ground := Ground.phase }, { on := 10, ground := Ground.phase }, { on := 11, ground := Ground.phase }, { on := 12, ground := Ground.phase }, { on := 13, ground := Ground.phase }], guard := none }) rfl (fun K' hK' => ?_) AllReadyH.nil
      go_simp
      refine hK'.out _ _ ?_ (fun hHeld => ?_)
      · simp [go_sem, gg]
      clear hK' K'
      try simp only [Act.put, List.setIfInBounds_toArray, List.set_cons_zero, List.set_cons_succ]
      refine wpAnyH_done (by kernel_rfl) ?_ _
      go_wp2
      go_end0
      exact ⟨rfl, _, _, (unhide FIN).1, (unhide F1).trans ((((Fr.refl _ _).alloc (.cells #[.int .i64 z, .int .i64 at_, .int .i64 tn] 210)).drew).trans (unhide FIN).2)⟩
  · have e1 : (1099511627776 : Int) = at_ := by have := unhide HAT; omega
    have hlt' : ¬ v < 1099511627776 - s.clock := hlt
    go_wp2
    have e2 : (Value.int .i64 1099511627776) = .int .i64 at_ := by rw [← e1]
    rw [e2]
    clear e1 e2
    refine wp_region_held_drew (S := fun w' => w'.cell? ⟨b, 15, none⟩ = some (.int .i64 tn)) (by kernel_rfl) ?_ (fun hHeld => ?_)
    · exact k15
    refine wpAnyH_take (i := 0) (oi := { dst := some 24, op := Op.move (Operand.tmp 0), type := 177, pos := "run.go:202", after := #[], guard := none }) (v := ?_) rfl (by kernel_rfl) (by kernel_rfl) (by kernel_rfl) (fun _ _ _ h => h) (Or.inl ⟨by rfl, ?_⟩) (by assumption) ?_
    rotate_left
    · intro w hSw; (try dsimp only at hSw); go_simp; try with_reducible rfl
    simp only [Act.put, List.setIfInBounds_toArray, List.set_cons_zero, List.set_cons_succ]
    refine wpAnyH_take (i := 1) (oi := { dst := some 25, op := Op.move (Operand.tmp 0), type := 177, pos := "run.go:202", after := #[], guard := none }) (v := ?_) rfl (by kernel_rfl) (by kernel_rfl) (by kernel_rfl) (fun _ _ _ h => h) (Or.inl ⟨by rfl, ?_⟩) (by assumption) ?_
    rotate_left
    · intro w hSw; (try dsimp only at hSw); go_simp; try with_reducible rfl
    simp only [Act.put, List.setIfInBounds_toArray, List.set_cons_zero, List.set_cons_succ]
    refine wpAnyH_take (i := 2) (oi := { dst := some 26, op := Op.nilCheck (Operand.tmp 25), type := 0, pos := "run.go:202", after := #[{ on := 1, ground := Ground.data }], guard := none }) (v := ?_) rfl (by kernel_rfl) (by kernel_rfl) (by kernel_rfl) (fun _ _ _ h => h) (Or.inl ⟨by rfl, ?_⟩) (by assumption) ?_
    rotate_left
    · intro w hSw; (try dsimp only at hSw); go_simp; try with_reducible rfl
    simp only [Act.put, List.setIfInBounds_toArray, List.set_cons_zero, List.set_cons_succ]
    refine wpAnyH_take (i := 3) (oi := { dst := some 27, op := Op.fieldAddr 180 (Operand.tmp 26) 8, type := 0, pos := "run.go:202", after := #[{ on := 2, ground := Ground.data }], guard := none }) (v := ?_) rfl (by kernel_rfl) (by kernel_rfl) (by kernel_rfl) (fun _ _ _ h => h) (Or.inl ⟨by rfl, ?_⟩) (by assumption) ?_
    rotate_left
    · intro w hSw; (try dsimp only at hSw); go_simp; try with_reducible rfl
    simp only [Act.put, List.setIfInBounds_toArray, List.set_cons_zero, List.set_cons_succ]
    refine wpAnyH_take (i := 5) (oi := { dst := some 29, op := Op.move (Operand.tmp 1), type := 3, pos := "run.go:202", after := #[], guard := none }) (v := ?_) rfl (by kernel_rfl) (by kernel_rfl) (by kernel_rfl) (fun _ _ _ h => h) (Or.inl ⟨by rfl, ?_⟩) (by assumption) ?_
    rotate_left
    · intro w hSw; (try dsimp only at hSw); go_simp; try with_reducible rfl
    simp only [Act.put, List.setIfInBounds_toArray, List.set_cons_zero, List.set_cons_succ]
    refine wpAnyH_take (i := 6) (oi := { dst := some 30, op := Op.move (Operand.tmp 6), type := 3, pos := "run.go:202", after := #[], guard := none }) (v := ?_) rfl (by kernel_rfl) (by kernel_rfl) (by kernel_rfl) (fun _ _ _ h => h) (Or.inl ⟨by rfl, ?_⟩) (by assumption) ?_
    rotate_left
    · intro w hSw; (try dsimp only at hSw); go_simp; try with_reducible rfl
    simp only [Act.put, List.setIfInBounds_toArray, List.set_cons_zero, List.set_cons_succ]
    refine wpAnyH_take (i := 7) (oi := { dst := some 31, op := Op.move (Operand.tmp 0), type := 177, pos := "run.go:202", after := #[], guard := none }) (v := ?_) rfl (by kernel_rfl) (by kernel_rfl) (by kernel_rfl) (fun _ _ _ h => h) (Or.inl ⟨by rfl, ?_⟩) (by assumption) ?_
    rotate_left
    · intro w hSw; (try dsimp only at hSw); go_simp; try with_reducible rfl
    simp only [Act.put, List.setIfInBounds_toArray, List.set_cons_zero, List.set_cons_succ]
    refine wpAnyH_take (i := 8) (oi := { dst := some 32, op := Op.nilCheck (Operand.tmp 31), type := 0, pos := "run.go:202", after := #[{ on := 7, ground := Ground.data }], guard := none }) (v := ?_) rfl (by kernel_rfl) (by kernel_rfl) (by kernel_rfl) (fun _ _ _ h => h) (Or.inl ⟨by rfl, ?_⟩) (by assumption) ?_
    rotate_left
    · intro w hSw; (try dsimp only at hSw); go_simp; try with_reducible rfl
    simp only [Act.put, List.setIfInBounds_toArray, List.set_cons_zero, List.set_cons_succ]
    refine wpAnyH_take (i := 9) (oi := { dst := some 33, op := Op.fieldAddr 180 (Operand.tmp 32) 7, type := 0, pos := "run.go:202", after := #[{ on := 8, ground := Ground.data }], guard := none }) (v := ?_) rfl (by kernel_rfl) (by kernel_rfl) (by kernel_rfl) (fun _ _ _ h => h) (Or.inl ⟨by rfl, ?_⟩) (by assumption) ?_
    rotate_left
    · intro w hSw; (try dsimp only at hSw); go_simp; try with_reducible rfl
    simp only [Act.put, List.setIfInBounds_toArray, List.set_cons_zero, List.set_cons_succ]
    refine wpAnyH_take (i := 10) (oi := { dst := some 34, op := Op.load 3 (Operand.tmp 33), type := 3, pos := "run.go:202", after := #[{ on := 9, ground := Ground.data }], guard := none }) (v := ?_) rfl (by kernel_rfl) (by kernel_rfl) (by kernel_rfl) (fun _ _ _ h => h) (Or.inl ⟨by rfl, ?_⟩) (by assumption) ?_
    rotate_left
    · intro w hSw; (try dsimp only at hSw); go_simp; try with_reducible rfl
    simp only [Act.put, List.setIfInBounds_toArray, List.set_cons_zero, List.set_cons_succ]
    refine wpAnyH_take (i := 11) (oi := { dst := some 35, op := Op.build 210 #[(0, Operand.tmp 29), (1, Operand.tmp 30), (2, Operand.tmp 34)], type := 210, pos := "run.go:202", after := #[{ on := 5, ground := Ground.data }, { on := 6, ground := Ground.data }, { on := 10, ground := Ground.data }], guard := none }) (v := ?_) rfl (by kernel_rfl) (by kernel_rfl) (by kernel_rfl) (fun _ _ _ h => h) (Or.inl ⟨by rfl, ?_⟩) (by assumption) ?_
    rotate_left
    · intro w hSw; (try dsimp only at hSw); go_simp; try with_reducible rfl
    simp only [Act.put, List.setIfInBounds_toArray, List.set_cons_zero, List.set_cons_succ]
    refine wpAnyH_ready (rs := [4, 12]) (by kernel_rfl) (by simp) ?_
    refine AllReadyH.cons (o := { dst := some 28, op := Op.load 178 (Operand.tmp 27), type := 178, pos := "run.go:202", after := #[{ on := 3, ground := Ground.data }], guard := none }) rfl (fun K' hK' => ?_) (AllReadyH.cons (o := { dst := some 36, op := Op.buildSlice 178 1 #[(0, Operand.tmp 35)], type := 178, pos := "run.go:202", after := #[{ on := 11, ground := Ground.data }], guard := none }) rfl (fun K' hK' => ?_) AllReadyH.nil)
    · go_simp
      refine hK'.out _ _ ?_ (fun hHeld => ?_)
      · exact k15
      clear hK' K'
      try simp only [Act.put, List.setIfInBounds_toArray, List.set_cons_zero, List.set_cons_succ]
      refine wpAnyH_ready (rs := [12]) (by kernel_rfl) (by simp) ?_
      refine AllReadyH.cons (o := { dst := some 36, op := Op.buildSlice 178 1 #[(0, Operand.tmp 35)], type := 178, pos := "run.go:202", after := #[{ on := 11, ground := Ground.data }], guard := none }) rfl (fun K' hK' => ?_) AllReadyH.nil
      go_simp
      refine hK'.out _ _ ?_ (fun hHeld => ?_)
      · exact kq _
      clear hK' K'
      try simp only [Act.put, List.setIfInBounds_toArray, List.set_cons_zero, List.set_cons_succ]
      refine wpAnyH_ready (rs := [13]) (by kernel_rfl) (by simp) ?_
      refine AllReadyH.cons (o := { dst := some 37, op := Op.call { callee := Callee.builtin Builtin.append, args := #[Operand.tmp 28, Operand.tmp 36], argTypes := #[178, 178] }, type := 178, pos := "run.go:202", after := #[{ on := 4, ground := Ground.data }, { on := 12, ground := Ground.data }], guard := none }) rfl (fun K' hK' => ?_) AllReadyH.nil
      refine step_grown (d := 37) rfl elemA (by decide) (by decide) (v := .slice aa (cutA A z).length ca) (n := (cutA A z).length) (m := 1) (xs := flatA (cutA A z)) (news := [.int .i64 z, .int .i64 at_, .int .i64 tn]) (B := B) (ad := ⟨w1.heap.size, 0, none⟩) (cap := 1) rfl (.tmp 28) (.tmp 36) rfl rfl rfl ((unhide H1).fr L ((Fr.refl _ _).alloc (.cells #[.int .i64 z, .int .i64 at_, .int .i64 tn] 210)).drew).arow rfl (World.news_of_block (heap_alloc_new w1 _)) (by simp [Value.oneCell']) (by omega) (by omega) ((unhide H1).fr L ((Fr.refl _ _).alloc (.cells #[.int .i64 z, .int .i64 at_, .int .i64 tn] 210)).drew).below ?_
      intro v3 w3 o3 f3 sh3
      obtain ⟨av, cv, rfl⟩ := sh3
      have h2 := (unhide H1).fr L ((Fr.refl _ _).alloc (.cells #[.int .i64 z, .int .i64 at_, .int .i64 tn] 210)).drew
      have hbs := f3.same b h2.blt (fun e => (h2.inA b e).2.1 rfl)
      have c2 := h2.cells.block hbs
      have gg : w3.cell? ⟨b, 15, none⟩ = some (.int .i64 tn) := (c2 15 (by omega)).1.trans (by rw [limg_turn])
      have pc := (c2 16 (by omega)).1.trans (by rw [limg_armed])
      have pz := (c2 16 (by omega)).2
      have FIN := hide (h2.setArmed L (A' := cutA A z ++ [((true, at_, s.armings + 1, z), tn)]) (s' := { s with armings := s.armings + 1, tim := upd s.tim z.toNat (true, at_, s.armings + 1, z) }) (by rw [List.length_append, flatA_append]; exact o3) f3 (unhide HR) rfl rfl rfl rfl rfl rfl rfl)
      clear o3 f3 h2 hbs c2
      refine hK'.out _ _ gg (fun hHeld => ?_)
      clear hK' K'
      simp only [List.setIfInBounds_toArray, List.set_cons_zero, List.set_cons_succ]
      refine wpAnyH_take (i := 14) (oi := { dst := some 38, op := Op.nilCheck (Operand.tmp 24), type := 0, pos := "run.go:202", after := #[{ on := 0, ground := Ground.data }, { on := 0, ground := Ground.phase }, { on := 1, ground := Ground.phase }, { on := 2, ground := Ground.phase }, { on := 3, ground := Ground.phase }, { on := 4, ground := Ground.phase }, { on := 5, ground := Ground.phase }, { on := 6, ground := Ground.phase }, { on := 7, ground := Ground.phase }, { on := 8, ground := Ground.phase }, { on := 9, ground := Ground.phase }, { on := 10, ground := Ground.phase }, { on := 11, ground := Ground.phase }, { on := 12, ground := Ground.phase }, { on := 13, ground := Ground.phase }], guard := none }) (v := ?_) rfl (by kernel_rfl) (by kernel_rfl) (by kernel_rfl) (fun _ _ _ h => h) (Or.inl ⟨by rfl, ?_⟩) (by assumption) ?_
      rotate_left
      · intro w hSw; (try dsimp only at hSw); go_simp; try with_reducible rfl
      simp only [Act.put, List.setIfInBounds_toArray, List.set_cons_zero, List.set_cons_succ]
      refine wpAnyH_take (i := 15) (oi := { dst := some 39, op := Op.fieldAddr 180 (Operand.tmp 38) 8, type := 0, pos := "run.go:202", after := #[{ on := 14, ground := Ground.data }, { on := 0, ground := Ground.phase }, { on := 1, ground := Ground.phase }, { on := 2, ground := Ground.phase }, { on := 3, ground := Ground.phase }, { on := 4, ground := Ground.phase }, { on := 5, ground := Ground.phase }, { on := 6, ground := Ground.phase }, { on := 7, ground := Ground.phase }, { on := 8, ground := Ground.phase }, { on := 9, ground := Ground.phase }, { on := 10, ground := Ground.phase }, { on := 11, ground := Ground.phase }, { on := 12, ground := Ground.phase }, { on := 13, ground := Ground.phase }], guard := none }) (v := ?_) rfl (by kernel_rfl) (by kernel_rfl) (by kernel_rfl) (fun _ _ _ h => h) (Or.inl ⟨by rfl, ?_⟩) (by assumption) ?_
      rotate_left
      · intro w hSw; (try dsimp only at hSw); go_simp; try with_reducible rfl
      simp only [Act.put, List.setIfInBounds_toArray, List.set_cons_zero, List.set_cons_succ]
      refine wpAnyH_ready (rs := [16]) (by kernel_rfl) (by simp) ?_
      refine AllReadyH.cons (o := { dst := none, op := Op.store 178 (Operand.tmp 39) (Operand.tmp 37), type := 0, pos := "run.go:202", after := #[{ on := 15, ground := Ground.data }, { on := 13, ground := Ground.data }, { on := 13, ground := Ground.chain }, { on := 0, ground := Ground.phase }, { on := 1, ground := Ground.phase }, { on := 2, ground := Ground.phase }, { on := 3, ground := Ground.phase }, { on := 4, ground := Ground.phase }, { on := 5, ground := Ground.phase }, { on := 6, ground := Ground.phase }, { on := 7, ground := Ground.phase }, { on := 8, ground := Ground.phase }, { on := 9, ground := Ground.phase }, { on := 10, ground := Ground.phase }, { on := 11, ground := Ground.phase }, { on := 12, ground := Ground.phase }, { on := 13, ground := Ground.phase }], guard := none }) rfl (fun K' hK' => ?_) AllReadyH.nil
      go_simp
      refine hK'.out _ _ ?_ (fun hHeld => ?_)
      · simp [go_sem, gg]
      clear hK' K'
      try simp only [Act.put, List.setIfInBounds_toArray, List.set_cons_zero, List.set_cons_succ]
      refine wpAnyH_done (by kernel_rfl) ?_ _
      go_wp2
      go_end0
      exact ⟨rfl, _, _, (unhide FIN).1, (unhide F1).trans ((((Fr.refl _ _).alloc (.cells #[.int .i64 z, .int .i64 at_, .int .i64 tn] 210)).drew).trans (unhide FIN).2)⟩
    · go_simp
      refine hK'.out _ _ ?_ (fun hHeld => ?_)
      · exact kq _
      clear hK' K'
      try simp only [Act.put, List.setIfInBounds_toArray, List.set_cons_zero, List.set_cons_succ]
      refine wpAnyH_ready (rs := [4]) (by kernel_rfl) (by simp) ?_
      refine AllReadyH.cons (o := { dst := some 28, op := Op.load 178 (Operand.tmp 27), type := 178, pos := "run.go:202", after := #[{ on := 3, ground := Ground.data }], guard := none }) rfl (fun K' hK' => ?_) AllReadyH.nil
      go_simp
      refine hK'.out _ _ ?_ (fun hHeld => ?_)
      · exact kq _
      clear hK' K'
      try simp only [Act.put, List.setIfInBounds_toArray, List.set_cons_zero, List.set_cons_succ]
      refine wpAnyH_ready (rs := [13]) (by kernel_rfl) (by simp) ?_
      refine AllReadyH.cons (o := { dst := some 37, op := Op.call { callee := Callee.builtin Builtin.append, args := #[Operand.tmp 28, Operand.tmp 36], argTypes := #[178, 178] }, type := 178, pos := "run.go:202", after := #[{ on := 4, ground := Ground.data }, { on := 12, ground := Ground.data }], guard := none }) rfl (fun K' hK' => ?_) AllReadyH.nil
      refine step_grown (d := 37) rfl elemA (by decide) (by decide) (v := .slice aa (cutA A z).length ca) (n := (cutA A z).length) (m := 1) (xs := flatA (cutA A z)) (news := [.int .i64 z, .int .i64 at_, .int .i64 tn]) (B := B) (ad := ⟨w1.heap.size, 0, none⟩) (cap := 1) rfl (.tmp 28) (.tmp 36) rfl rfl rfl ((unhide H1).fr L ((Fr.refl _ _).alloc (.cells #[.int .i64 z, .int .i64 at_, .int .i64 tn] 210)).drew).arow rfl (World.news_of_block (heap_alloc_new w1 _)) (by simp [Value.oneCell']) (by omega) (by omega) ((unhide H1).fr L ((Fr.refl _ _).alloc (.cells #[.int .i64 z, .int .i64 at_, .int .i64 tn] 210)).drew).below ?_
      intro v3 w3 o3 f3 sh3
      obtain ⟨av, cv, rfl⟩ := sh3
      have h2 := (unhide H1).fr L ((Fr.refl _ _).alloc (.cells #[.int .i64 z, .int .i64 at_, .int .i64 tn] 210)).drew
      have hbs := f3.same b h2.blt (fun e => (h2.inA b e).2.1 rfl)
      have c2 := h2.cells.block hbs
      have gg : w3.cell? ⟨b, 15, none⟩ = some (.int .i64 tn) := (c2 15 (by omega)).1.trans (by rw [limg_turn])
      have pc := (c2 16 (by omega)).1.trans (by rw [limg_armed])
      have pz := (c2 16 (by omega)).2
      have FIN := hide (h2.setArmed L (A' := cutA A z ++ [((true, at_, s.armings + 1, z), tn)]) (s' := { s with armings := s.armings + 1, tim := upd s.tim z.toNat (true, at_, s.armings + 1, z) }) (by rw [List.length_append, flatA_append]; exact o3) f3 (unhide HR) rfl rfl rfl rfl rfl rfl rfl)
      clear o3 f3 h2 hbs c2
      refine hK'.out _ _ gg (fun hHeld => ?_)
      clear hK' K'
      simp only [List.setIfInBounds_toArray, List.set_cons_zero, List.set_cons_succ]
      refine wpAnyH_take (i := 14) (oi := { dst := some 38, op := Op.nilCheck (Operand.tmp 24), type := 0, pos := "run.go:202", after := #[{ on := 0, ground := Ground.data }, { on := 0, ground := Ground.phase }, { on := 1, ground := Ground.phase }, { on := 2, ground := Ground.phase }, { on := 3, ground := Ground.phase }, { on := 4, ground := Ground.phase }, { on := 5, ground := Ground.phase }, { on := 6, ground := Ground.phase }, { on := 7, ground := Ground.phase }, { on := 8, ground := Ground.phase }, { on := 9, ground := Ground.phase }, { on := 10, ground := Ground.phase }, { on := 11, ground := Ground.phase }, { on := 12, ground := Ground.phase }, { on := 13, ground := Ground.phase }], guard := none }) (v := ?_) rfl (by kernel_rfl) (by kernel_rfl) (by kernel_rfl) (fun _ _ _ h => h) (Or.inl ⟨by rfl, ?_⟩) (by assumption) ?_
      rotate_left
      · intro w hSw; (try dsimp only at hSw); go_simp; try with_reducible rfl
      simp only [Act.put, List.setIfInBounds_toArray, List.set_cons_zero, List.set_cons_succ]
      refine wpAnyH_take (i := 15) (oi := { dst := some 39, op := Op.fieldAddr 180 (Operand.tmp 38) 8, type := 0, pos := "run.go:202", after := #[{ on := 14, ground := Ground.data }, { on := 0, ground := Ground.phase }, { on := 1, ground := Ground.phase }, { on := 2, ground := Ground.phase }, { on := 3, ground := Ground.phase }, { on := 4, ground := Ground.phase }, { on := 5, ground := Ground.phase }, { on := 6, ground := Ground.phase }, { on := 7, ground := Ground.phase }, { on := 8, ground := Ground.phase }, { on := 9, ground := Ground.phase }, { on := 10, ground := Ground.phase }, { on := 11, ground := Ground.phase }, { on := 12, ground := Ground.phase }, { on := 13, ground := Ground.phase }], guard := none }) (v := ?_) rfl (by kernel_rfl) (by kernel_rfl) (by kernel_rfl) (fun _ _ _ h => h) (Or.inl ⟨by rfl, ?_⟩) (by assumption) ?_
      rotate_left
      · intro w hSw; (try dsimp only at hSw); go_simp; try with_reducible rfl
      simp only [Act.put, List.setIfInBounds_toArray, List.set_cons_zero, List.set_cons_succ]
      refine wpAnyH_ready (rs := [16]) (by kernel_rfl) (by simp) ?_
      refine AllReadyH.cons (o := { dst := none, op := Op.store 178 (Operand.tmp 39) (Operand.tmp 37), type := 0, pos := "run.go:202", after := #[{ on := 15, ground := Ground.data }, { on := 13, ground := Ground.data }, { on := 13, ground := Ground.chain }, { on := 0, ground := Ground.phase }, { on := 1, ground := Ground.phase }, { on := 2, ground := Ground.phase }, { on := 3, ground := Ground.phase }, { on := 4, ground := Ground.phase }, { on := 5, ground := Ground.phase }, { on := 6, ground := Ground.phase }, { on := 7, ground := Ground.phase }, { on := 8, ground := Ground.phase }, { on := 9, ground := Ground.phase }, { on := 10, ground := Ground.phase }, { on := 11, ground := Ground.phase }, { on := 12, ground := Ground.phase }, { on := 13, ground := Ground.phase }], guard := none }) rfl (fun K' hK' => ?_) AllReadyH.nil
      go_simp
      refine hK'.out _ _ ?_ (fun hHeld => ?_)
      · simp [go_sem, gg]
      clear hK' K'
      try simp only [Act.put, List.setIfInBounds_toArray, List.set_cons_zero, List.set_cons_succ]
      refine wpAnyH_done (by kernel_rfl) ?_ _
      go_wp2
      go_end0
      exact ⟨rfl, _, _, (unhide FIN).1, (unhide F1).trans ((((Fr.refl _ _).alloc (.cells #[.int .i64 z, .int .i64 at_, .int .i64 tn] 210)).drew).trans (unhide FIN).2)⟩
end
end Go.Proofs.YtfmbebofllgmoaaGreatDoor
namespace Go.Proofs.YtfmbebofllgmoaaGreatDoor
open Go.RowKit
attribute [local go_sem ↓] Go.wp_at_zero Go.wp_at_succ

section
variable {pv : Nat → Value} {vt va : Value} {s : PS} {tn : Int}
theorem lset_fin (v : Int) : ∀ j, j < 28 → limg pv vt va { s with fin := v } tn j = setC (limg pv vt va s tn) 27 (.int .i64 v) j :=
  lset_gen (limg_fin _ _ _ _ _) (fun _ _ _ => rfl) (fun _ => rfl) (fun _ => rfl) (fun _ => rfl) (fun _ _ _ => rfl) (fun _ => rfl) (fun _ => rfl) (fun e => absurd rfl e)
theorem lset_clock (v : Int) : ∀ j, j < 28 → limg pv vt va { s with clock := v } tn j = setC (limg pv vt va s tn) 14 (.int .i64 v) j :=
  lset_gen (limg_clock _ _ _ _ _) (fun _ _ _ => rfl) (fun e => absurd rfl e) (fun _ => rfl) (fun _ => rfl) (fun _ _ _ => rfl) (fun _ => rfl) (fun _ => rfl) (fun _ => rfl)
theorem lset_fuel (v : Int) : ∀ j, j < 28 → limg pv vt va { s with fuel := v } tn j = setC (limg pv vt va s tn) 25 (.int .i64 v) j :=
  lset_gen (limg_fuel _ _ _ _ _) (fun _ _ _ => rfl) (fun _ => rfl) (fun _ => rfl) (fun _ => rfl) (fun _ _ _ => rfl) (fun e => absurd rfl e) (fun _ => rfl) (fun _ => rfl)
theorem lset_turn (v : Int) : ∀ j, j < 28 → limg pv vt va s v j = setC (limg pv vt va s tn) 15 (.int .i64 v) j :=
  lset_gen (limg_turn _ _ _ _ _) (fun _ _ _ => rfl) (fun _ => rfl) (fun e => absurd rfl e) (fun _ => rfl) (fun _ _ _ => rfl) (fun _ => rfl) (fun _ => rfl) (fun _ => rfl)
theorem lset_reg (i : Nat) (v : Int) (h : i < 4) : ∀ j, j < 28 → limg pv vt va { s with reg := upd s.reg i v } tn j = setC (limg pv vt va s tn) (10 + i) (.int .i64 v) j :=
  lset_gen (by rw [limg_reg _ _ _ _ _ _ h]; simp [upd]) (fun j _ hne => by simp only [upd]; rw [if_neg (by omega)]) (fun _ => rfl) (fun _ => rfl) (fun _ => rfl) (fun _ _ _ => rfl) (fun _ => rfl) (fun _ => rfl) (fun _ => rfl)
theorem lset_wat (i : Nat) (v : Bool) (h : i < 8) : ∀ j, j < 28 → limg pv vt va { s with wat := upd s.wat i v } tn j = setC (limg pv vt va s tn) (17 + i) (.bool v) j :=
  lset_gen (by rw [limg_wat _ _ _ _ _ _ h]; simp [upd]) (fun _ _ _ => rfl) (fun _ => rfl) (fun _ => rfl) (fun _ => rfl) (fun j _ hne => by simp only [upd]; rw [if_neg (by omega)]) (fun _ => rfl) (fun _ => rfl) (fun _ => rfl)
end
section
variable {σ : Type} {SQ : (Nat → Value) → (Nat → Prop) → World → σ → Prop} {ask : σ → Int → Int → Rep × σ} {may : Int → Int → Prop} {B : Nat} {S T : Nat → Prop} {w : World} {b : Nat} {pv : Nat → Value} {vt va : Value} {s : PS} {A : List AT} {tn sq : Int} {x : σ}
/-- The loop in memory behind a question: its rows stand as they stood. -/
def LPostS (SQ : (Nat → Value) → (Nat → Prop) → World → σ → Prop) (B : Nat) (S : Nat → Prop) (w : World) (b : Nat) (pv : Nat → Value) (vt va : Value) (A : List AT) (tn sq : Int) (s : PS) (x : σ) (w' : World) : Prop :=
  ∃ S' pv' T', LQ SQ B S' w' b pv' vt va T' s A tn sq x ∧ (∀ i, i < 3 → pv' i = pv i) ∧ Fr S w w' S'
/-- A question is heard, or ends the run. -/
def hearS (s : PS) (R : Rep) : PS := if R.e = 0 then { s with heard := wrap64 (s.heard + 1) } else { s with fin := R.e }
/-- A source that keeps its word. -/
structure HearQ (SQ : (Nat → Value) → (Nat → Prop) → World → σ → Prop) (ask : σ → Int → Int → Rep × σ) (may : Int → Int → Prop) (B : Nat) : Prop where
  calls : ∀ {S T : Nat → Prop} {w : World} {b : Nat} {pv : Nat → Value} {vt va : Value} {s : PS} {A : List AT} {tn sq : Int} {x : σ} {k o : Int}, LQ SQ B S w b pv vt va T s A tn sq x → s.fin = 0 → may k o →
    Calls Tryz.prog 141 #[.pointer (some ⟨b, 0, none⟩), .int .i64 k, .int .i64 o] w fun e w' => ∃ kd of_ n fa fl fc, e = .returned (.agg #[.int .i64 kd, .int .i64 of_, .int .i64 n, .slice fa fl fc]) ∧ LPostS SQ B S w b pv vt va A tn sq (hearS s (ask x k o).1) (ask x k o).2 w' ∧
      ((ask x k o).1.e = 0 → n = (ask x k o).1.n ∧ IntsIn w' (.slice fa fl fc) (ask x k o).1.files (fun q => q < w'.heap.size))

set_option maxHeartbeats 1000000 in
theorem clockQ_any (L : SQLaw SQ B) (K : HearQ SQ ask may B) (h : LQ SQ B S w b pv vt va T s A tn sq x) (hf : s.fin = 0) (hm : may 1 0) :
    Calls Tryz.prog 127 #[.pointer (some ⟨b, 0, none⟩)] w fun e w' => e = .returned (.tuple #[]) ∧ LPostS SQ B S w b pv vt va A tn sq (ckS s (ask x 1 0).1) (ask x 1 0).2 w' := by
  have hc := K.calls h hf hm
  generalize ask x 1 0 = R at *
  obtain ⟨⟨rk, ro, rn, rf, re⟩, x'⟩ := R
  have HC := hide hc
  have hinB := h.inB
  have HIN := hide hinB
  clear hc h hm hinB
  go_enter Tryz.func127, Tryz.ntmps127
  go_wp2_with fail
  go_at_call 141
  refine (unhide HC).mono ?_
  rintro e w1 ⟨kd, of_, n, fa, fl, fc, rfl, ⟨S1, pv1, T1, h1, hp1, f1⟩, hn⟩
  have ha := h1.alloc L (.cells #[.int .i64 kd, .int .i64 of_, .int .i64 n, .slice fa fl fc] 49)
  have fa1 := f1.alloc (.cells #[.int .i64 kd, .int .i64 of_, .int .i64 n, .slice fa fl fc] 49)
  have k27 := (h1.cell 27 (by omega)).trans (by rw [limg_fin])
  have z27 := h1.free 27 (by omega)
  have k14 := (h1.cell 14 (by omega)).trans (by rw [limg_clock])
  have z14 := h1.free 14 (by omega)
  have hb := h1.blt
  have hne : b ≠ w1.heap.size := by omega
  have hne' : ¬ w1.heap.size = b := by omega
  have HA := hide ha
  have FA := hide fa1
  have HN := hide hn
  have HP := hide hp1
  have IN1 := hide h1.inB
  clear ha fa1 hn h1 f1 hp1 HC
  by_cases hre : re = 0
  · have e0 : hearS s ⟨rk, ro, rn, rf, re⟩ = { s with heard := wrap64 (s.heard + 1) } := by unfold hearS; rw [if_pos hre]
    rw [e0] at HA k27 k14
    have hnn : n = rn := (unhide HN hre).1
    subst hnn
    have k27' : w1.cell? ⟨b, 27, none⟩ = some (.int .i64 0) := by rw [k27]; show some (Value.int .i64 s.fin) = _; rw [hf]
    change w1.cell? ⟨b, 14, none⟩ = some (.int .i64 s.clock) at k14
    clear k27 e0 HN
    by_cases hlt : n < s.clock
    · have e2 : ckS s ⟨rk, ro, n, rf, re⟩ = { s with heard := wrap64 (s.heard + 1), fin := 4 } := by simp [ckS, hre, hlt]
      have E2 := hide e2
      clear e2
      go_wp2
      go_quiet (fail)
      go_wp2
      refine bodyPost_ret (v := .tuple #[]) (by simp [results, Tryz.results127, go_sem]) rfl ⟨rfl, ?_⟩
      rw [unhide E2]
      exact ⟨S1, pv1, T1, ((unhide HA).drewN L _).set L 27 _ _ (by omega) (lset_fin 4) rfl ((unhide HA).rel.of rfl rfl) rfl, unhide HP, ((unhide FA).drewN _).setCell _ _ (.inl (unhide HIN))⟩
    · have e2 : ckS s ⟨rk, ro, n, rf, re⟩ = { s with heard := wrap64 (s.heard + 1), clock := n } := by simp [ckS, hre, hlt]
      have E2 := hide e2
      clear e2
      go_wp2
      go_quiet (fail)
      go_wp2
      go_end0
      refine ⟨rfl, ?_⟩
      rw [unhide E2]
      exact ⟨S1, pv1, T1, ((unhide HA).drewN L _).set L 14 _ _ (by omega) (lset_clock n) rfl ((unhide HA).rel.of rfl rfl) rfl, unhide HP, ((unhide FA).drewN _).setCell _ _ (.inl (unhide HIN))⟩
  · have e0 : hearS s ⟨rk, ro, rn, rf, re⟩ = { s with fin := re } := by unfold hearS; rw [if_neg hre]
    have e2 : ckS s ⟨rk, ro, rn, rf, re⟩ = { s with fin := re } := by simp [ckS, hre]
    rw [e0] at HA k27
    have E2 := hide e2
    change w1.cell? ⟨b, 27, none⟩ = some (.int .i64 re) at k27
    clear k14 z14 e0 e2 HN
    go_wp2
    refine bodyPost_ret (v := .tuple #[]) (by simp [results, Tryz.results127, go_sem]) rfl ⟨rfl, ?_⟩
    rw [unhide E2]
    exact ⟨S1, pv1, T1, unhide HA, unhide HP, unhide FA⟩
end
end Go.Proofs.YtfmbebofllgmoaaGreatDoor
namespace Go.Proofs.YtfmbebofllgmoaaGreatDoor
open Go.RowKit
attribute [local go_sem ↓] Go.wp_at_zero Go.wp_at_succ

/-- Values in memory, in a block of P, with a capacity that is one. -/
def ValsC (w : World) (v : Value) (l : List Value) (P : Nat → Prop) : Prop :=
  ∃ a c, v = .slice a l.length c ∧ l.length ≤ c ∧ (l = [] ∨ ∃ q off, a = some ⟨q, off, none⟩ ∧ P q ∧ ∀ i, i < l.length → w.cell? ⟨q, off + i, none⟩ = some (l.getD i undef))
/-- Numbers. -/
def IntsC (w : World) (v : Value) (l : List Int) (P : Nat → Prop) : Prop := ValsC w v (l.map (.int .i64)) P
/-- Lists of numbers. -/
def BatsC (w : World) (v : Value) (ls : List (List Int)) (P : Nat → Prop) : Prop :=
  ∃ vals : List Value, ValsC w v vals P ∧ vals.length = ls.length ∧ ∀ (i : Nat) (u : Value) (l : List Int), vals[i]? = some u → ls[i]? = some l → IntsIn w u l P
theorem ValsC.keep {w w' : World} {v : Value} {l : List Value} {P : Nat → Prop} (h : ValsC w v l P) (hk : ∀ q, P q → w'.heap[q]? = w.heap[q]?) : ValsC w' v l P := by
  obtain ⟨a, c, hv, hc, hl⟩ := h
  refine ⟨a, c, hv, hc, hl.imp id ?_⟩
  rintro ⟨q, off, ha, hq, hcc⟩
  exact ⟨q, off, ha, hq, fun i hi => (World.cell?_of_block (w := w) (a := ⟨q, off + i, none⟩) (hk q hq)).trans (hcc i hi)⟩
theorem BatsC.keep {w w' : World} {v : Value} {ls : List (List Int)} {P : Nat → Prop} (h : BatsC w v ls P) (hk : ∀ q, P q → w'.heap[q]? = w.heap[q]?) : BatsC w' v ls P := by
  obtain ⟨vals, h1, h2, h3⟩ := h
  exact ⟨vals, h1.keep hk, h2, fun i u l hu hl => intsIn_kept (h3 i u l hu hl) hk (fun _ h => h)⟩
/-- The first, and the rest. -/
theorem ValsC.cons {w : World} {v u : Value} {r : List Value} {P : Nat → Prop} (h : ValsC w v (u :: r) P) : ∃ q off c, v = .slice (some ⟨q, off, none⟩) (r.length + 1) c ∧ r.length + 1 ≤ c ∧ P q ∧ w.cell? ⟨q, off, none⟩ = some u ∧ ValsC w (.slice (if c = 1 then some ⟨q, off, none⟩ else some ⟨q, off + 1, none⟩) r.length (c - 1)) r P := by
  obtain ⟨a, c, hv, hc, hl⟩ := h
  rcases hl with h0 | ⟨q, off, rfl, hq, hcc⟩
  · cases h0
  refine ⟨q, off, c, hv, hc, hq, hcc 0 (by simp), _, c - 1, rfl, by simp at hc ⊢; omega, ?_⟩
  by_cases h1 : c = 1
  · left
    simp at hc
    exact List.eq_nil_of_length_eq_zero (by omega)
  · right
    refine ⟨q, off + 1, by rw [if_neg h1], hq, fun i hi => ?_⟩
    have := hcc (i + 1) (by simp; omega)
    rw [show off + 1 + i = off + (i + 1) by omega, this]
    rfl
theorem ValsC.nil {w : World} {v : Value} {P : Nat → Prop} (h : ValsC w v [] P) : ∃ a c, v = .slice a 0 c := by
  obtain ⟨a, c, hv, _⟩ := h
  exact ⟨a, c, hv⟩

theorem world_fr {w : World} {b j : Nat} {c : Nat → Value} {v : Value} (hc : LAt w b c) (hj : j < 28) (o1 o2 : Obj) : LAt (((w.setCell ⟨b, j, none⟩ v).alloc o1).alloc o2) b (setC c j v) ∧ Fr (fun q => q = b) w (((w.setCell ⟨b, j, none⟩ v).alloc o1).alloc o2) (fun q => q = b) := by
  have hb : b < w.heap.size := World.block_lt_of_cell? _ _ (hc 0 (by omega)).1
  have h1 := hc.set j v hj
  have hz : (w.setCell ⟨b, j, none⟩ v).heap.size = w.heap.size := by simp [World.setCell]
  have e : (((w.setCell ⟨b, j, none⟩ v).alloc o1).alloc o2).heap[b]? = (w.setCell ⟨b, j, none⟩ v).heap[b]? := (Below.heap_alloc _ _ _ (by simp [World.setCell]; omega)).trans (Below.heap_alloc _ _ _ (by rw [hz]; exact hb))
  exact ⟨h1.block e, (((Fr.refl (fun q => q = b) w).setCell ⟨b, j, none⟩ v (.inl rfl)).alloc o1).alloc o2⟩
theorem LAt.other {w : World} {b q j : Nat} {c : Nat → Value} {v : Value} (h : LAt w b c) (hq : ¬ b = q) : LAt (w.setCell ⟨q, j, none⟩ v) b c := h.block (Below.heap_setCell _ _ _ _ hq)
/-- What comes of a question to the world that is answered. -/
def WAns (w : World) (b : Nat) (c : Nat → Value) (k o n : Int) (fl : List Int) (j : Nat) (v' : Value) (e : Ending) (w' : World) : Prop :=
  ∃ fv, e = .returned (.tuple #[.agg #[.int .i64 k, .int .i64 o, .int .i64 n, fv], .bool true]) ∧ LAt w' b (setC c j v') ∧ Fr (fun q => q = b) w w' (fun q => q = b) ∧ OwnI w' w.heap.size fv fl
set_option maxHeartbeats 2000000 in
theorem world1 {w : World} {b : Nat} {c : Nat → Value} {P : Nat → Prop} (hcells : LAt w b c) (hP : ∀ q, P q → q < w.heap.size ∧ q ≠ b) {z : Int} {r : List Int} (hl : IntsC w (c 3) (z :: r) P) :
    ∃ v', IntsC w v' r P ∧ Calls Tryz.prog 146 #[.pointer (some ⟨b, 0, none⟩), .int .i64 1, .int .i64 0] w (WAns w b c 1 0 (clampC z) [] 3 v') := by
  obtain ⟨q, off, cp, hv, hcp, hq, hz, ht⟩ := ValsC.cons hl
  refine ⟨_, ht, ?_⟩
  have hb : b < w.heap.size := World.block_lt_of_cell? _ _ (hcells 0 (by omega)).1
  have c3 := (hcells 3 (by omega)).1
  have z3 := (hcells 3 (by omega)).2
  rw [hv] at c3
  obtain ⟨hq1, hq2⟩ := hP q hq
  rw [List.length_map] at c3 hcp ⊢
  rw [show clampC z = min (max z 0) 1099511627776 from rfl]
  have HC := hide hcells
  clear ht hcells hl hv
  by_cases h1 : cp = 1
  · subst h1
    obtain rfl : r = [] := List.eq_nil_of_length_eq_zero (by omega)
    rw [if_pos rfl]
    go_enter Tryz.func146, Tryz.ntmps146
    go_wp2
    refine bodyPost_ret (v := .tuple #[.agg #[.int .i64 1, .int .i64 0, .int .i64 (min (max z 0) 1099511627776), .slice none 0 0], .bool true]) (by simp [results, Tryz.results146, go_sem]) rfl ?_
    obtain ⟨g1, g2⟩ := world_fr (v := (.slice (some ⟨q, off, none⟩) 0 0)) (unhide HC) (j := 3) (by omega) (.cells #[.int .i64 1, .int .i64 0, .int .i64 (min (max z 0) 1099511627776), .slice none 0 0] 49) (.cells #[.int .i64 1, .int .i64 0, .int .i64 (min (max z 0) 1099511627776), .slice none 0 0] 49)
    exact ⟨_, rfl, g1, g2, World.ownsRow_nil _ _ _ _⟩
  · rw [if_neg h1]
    go_enter Tryz.func146, Tryz.ntmps146
    go_wp2
    refine bodyPost_ret (v := .tuple #[.agg #[.int .i64 1, .int .i64 0, .int .i64 (min (max z 0) 1099511627776), .slice none 0 0], .bool true]) (by simp [results, Tryz.results146, go_sem]) rfl ?_
    obtain ⟨g1, g2⟩ := world_fr (v := (.slice (some ⟨q, off + 1, none⟩) r.length (cp - 1))) (unhide HC) (j := 3) (by omega) (.cells #[.int .i64 1, .int .i64 0, .int .i64 (min (max z 0) 1099511627776), .slice none 0 0] 49) (.cells #[.int .i64 1, .int .i64 0, .int .i64 (min (max z 0) 1099511627776), .slice none 0 0] 49)
    exact ⟨_, rfl, g1, g2, World.ownsRow_nil _ _ _ _⟩
set_option maxHeartbeats 2000000 in
theorem world3 {w : World} {b : Nat} {c : Nat → Value} {P : Nat → Prop} (hcells : LAt w b c) (hP : ∀ q, P q → q < w.heap.size ∧ q ≠ b) (o : Int) (ho1 : 1 ≤ o) (ho2 : o ≤ 1000000) {z : Int} {r : List Int} (hl : IntsC w (c 5) (z :: r) P) :
    ∃ v', IntsC w v' r P ∧ Calls Tryz.prog 146 #[.pointer (some ⟨b, 0, none⟩), .int .i64 3, .int .i64 o] w (WAns w b c 3 o (z % o) [] 5 v') := by
  obtain ⟨q, off, cp, hv, hcp, hq, hz, ht⟩ := ValsC.cons hl
  refine ⟨_, ht, ?_⟩
  have hb : b < w.heap.size := World.block_lt_of_cell? _ _ (hcells 0 (by omega)).1
  have c3 := (hcells 5 (by omega)).1
  have z3 := (hcells 5 (by omega)).2
  rw [hv] at c3
  obtain ⟨hq1, hq2⟩ := hP q hq
  rw [List.length_map] at c3 hcp ⊢
  have HM := hide (rmodulo_any z o)
  have ho1a : (1 : Int) ≤ o := ho1
  have HC := hide hcells
  clear ht hcells hl hv
  by_cases h1 : cp = 1
  · subst h1
    obtain rfl : r = [] := List.eq_nil_of_length_eq_zero (by omega)
    rw [if_pos rfl]
    go_enter Tryz.func146, Tryz.ntmps146
    go_wp2_with (go_at_call 158; refine (unhide HM _ ho1 ho2).mono ?_; rintro e w2 ⟨rfl, hw2⟩; rw [hw2]; clear hw2 w2)
    refine bodyPost_ret (v := .tuple #[.agg #[.int .i64 3, .int .i64 o, .int .i64 (z % o), .slice none 0 0], .bool true]) (by simp [results, Tryz.results146, go_sem]) rfl ?_
    obtain ⟨g1, g2⟩ := world_fr (v := (.slice (some ⟨q, off, none⟩) 0 0)) (unhide HC) (j := 5) (by omega) (.cells #[.int .i64 3, .int .i64 o, .int .i64 (z % o), .slice none 0 0] 49) (.cells #[.int .i64 3, .int .i64 o, .int .i64 (z % o), .slice none 0 0] 49)
    exact ⟨_, rfl, g1, g2, World.ownsRow_nil _ _ _ _⟩
  · rw [if_neg h1]
    go_enter Tryz.func146, Tryz.ntmps146
    go_wp2_with (go_at_call 158; refine (unhide HM _ ho1 ho2).mono ?_; rintro e w2 ⟨rfl, hw2⟩; rw [hw2]; clear hw2 w2)
    refine bodyPost_ret (v := .tuple #[.agg #[.int .i64 3, .int .i64 o, .int .i64 (z % o), .slice none 0 0], .bool true]) (by simp [results, Tryz.results146, go_sem]) rfl ?_
    obtain ⟨g1, g2⟩ := world_fr (v := (.slice (some ⟨q, off + 1, none⟩) r.length (cp - 1))) (unhide HC) (j := 5) (by omega) (.cells #[.int .i64 3, .int .i64 o, .int .i64 (z % o), .slice none 0 0] 49) (.cells #[.int .i64 3, .int .i64 o, .int .i64 (z % o), .slice none 0 0] 49)
    exact ⟨_, rfl, g1, g2, World.ownsRow_nil _ _ _ _⟩
set_option maxHeartbeats 2000000 in
theorem world4 {w : World} {b : Nat} {c : Nat → Value} {P : Nat → Prop} (hcells : LAt w b c) (hP : ∀ q, P q → q < w.heap.size ∧ q ≠ b) (o : Int) (ho1 : 1 ≤ o) (ho2 : o ≤ 1000000) {z : Int} {r : List Int} (hl : IntsC w (c 6) (z :: r) P) :
    ∃ v', IntsC w v' r P ∧ Calls Tryz.prog 146 #[.pointer (some ⟨b, 0, none⟩), .int .i64 4, .int .i64 o] w (WAns w b c 4 o (z % o) [] 6 v') := by
  obtain ⟨q, off, cp, hv, hcp, hq, hz, ht⟩ := ValsC.cons hl
  refine ⟨_, ht, ?_⟩
  have hb : b < w.heap.size := World.block_lt_of_cell? _ _ (hcells 0 (by omega)).1
  have c3 := (hcells 6 (by omega)).1
  have z3 := (hcells 6 (by omega)).2
  rw [hv] at c3
  obtain ⟨hq1, hq2⟩ := hP q hq
  rw [List.length_map] at c3 hcp ⊢
  have HM := hide (rmodulo_any z o)
  have ho1a : (1 : Int) ≤ o := ho1
  have HC := hide hcells
  clear ht hcells hl hv
  by_cases h1 : cp = 1
  · subst h1
    obtain rfl : r = [] := List.eq_nil_of_length_eq_zero (by omega)
    rw [if_pos rfl]
    go_enter Tryz.func146, Tryz.ntmps146
    go_wp2_with (go_at_call 158; refine (unhide HM _ ho1 ho2).mono ?_; rintro e w2 ⟨rfl, hw2⟩; rw [hw2]; clear hw2 w2)
    refine bodyPost_ret (v := .tuple #[.agg #[.int .i64 4, .int .i64 o, .int .i64 (z % o), .slice none 0 0], .bool true]) (by simp [results, Tryz.results146, go_sem]) rfl ?_
    obtain ⟨g1, g2⟩ := world_fr (v := (.slice (some ⟨q, off, none⟩) 0 0)) (unhide HC) (j := 6) (by omega) (.cells #[.int .i64 4, .int .i64 o, .int .i64 (z % o), .slice none 0 0] 49) (.cells #[.int .i64 4, .int .i64 o, .int .i64 (z % o), .slice none 0 0] 49)
    exact ⟨_, rfl, g1, g2, World.ownsRow_nil _ _ _ _⟩
  · rw [if_neg h1]
    go_enter Tryz.func146, Tryz.ntmps146
    go_wp2_with (go_at_call 158; refine (unhide HM _ ho1 ho2).mono ?_; rintro e w2 ⟨rfl, hw2⟩; rw [hw2]; clear hw2 w2)
    refine bodyPost_ret (v := .tuple #[.agg #[.int .i64 4, .int .i64 o, .int .i64 (z % o), .slice none 0 0], .bool true]) (by simp [results, Tryz.results146, go_sem]) rfl ?_
    obtain ⟨g1, g2⟩ := world_fr (v := (.slice (some ⟨q, off + 1, none⟩) r.length (cp - 1))) (unhide HC) (j := 6) (by omega) (.cells #[.int .i64 4, .int .i64 o, .int .i64 (z % o), .slice none 0 0] 49) (.cells #[.int .i64 4, .int .i64 o, .int .i64 (z % o), .slice none 0 0] 49)
    exact ⟨_, rfl, g1, g2, World.ownsRow_nil _ _ _ _⟩
set_option maxHeartbeats 2000000 in
theorem world1n {w : World} {b : Nat} {c : Nat → Value} {P : Nat → Prop} (hcells : LAt w b c) (hl : ValsC w (c 3) [] P) :
    Calls Tryz.prog 146 #[.pointer (some ⟨b, 0, none⟩), .int .i64 1, .int .i64 0] w fun e w' => e = .returned (.tuple #[.agg #[.int .i64 1, .int .i64 0, .int .i64 0, .slice none 0 0], .bool false]) ∧ Fr (fun _ => False) w w' (fun _ => False) := by
  obtain ⟨a, cp, hv⟩ := hl.nil
  have hb : b < w.heap.size := World.block_lt_of_cell? _ _ (hcells 0 (by omega)).1
  have c3 := (hcells 3 (by omega)).1
  rw [hv] at c3
  clear hl hcells hv
  go_enter Tryz.func146, Tryz.ntmps146
  go_wp2
  refine bodyPost_ret (v := .tuple #[.agg #[.int .i64 1, .int .i64 0, .int .i64 0, .slice none 0 0], .bool false]) (by simp [results, Tryz.results146, go_sem]) rfl ⟨rfl, ?_⟩
  exact ((Fr.refl _ _).alloc _).alloc _
set_option maxHeartbeats 2000000 in
theorem world2n {w : World} {b : Nat} {c : Nat → Value} {P : Nat → Prop} (hcells : LAt w b c) (hl : ValsC w (c 4) [] P) :
    Calls Tryz.prog 146 #[.pointer (some ⟨b, 0, none⟩), .int .i64 2, .int .i64 0] w fun e w' => e = .returned (.tuple #[.agg #[.int .i64 2, .int .i64 0, .int .i64 0, .slice none 0 0], .bool false]) ∧ Fr (fun _ => False) w w' (fun _ => False) := by
  obtain ⟨a, cp, hv⟩ := hl.nil
  have hb : b < w.heap.size := World.block_lt_of_cell? _ _ (hcells 0 (by omega)).1
  have c3 := (hcells 4 (by omega)).1
  rw [hv] at c3
  clear hl hcells hv
  go_enter Tryz.func146, Tryz.ntmps146
  go_wp2
  refine bodyPost_ret (v := .tuple #[.agg #[.int .i64 2, .int .i64 0, .int .i64 0, .slice none 0 0], .bool false]) (by simp [results, Tryz.results146, go_sem]) rfl ⟨rfl, ?_⟩
  exact ((Fr.refl _ _).alloc _).alloc _
set_option maxHeartbeats 2000000 in
theorem world3n {w : World} {b : Nat} {c : Nat → Value} {P : Nat → Prop} (hcells : LAt w b c) (o : Int) (hl : ValsC w (c 5) [] P) :
    Calls Tryz.prog 146 #[.pointer (some ⟨b, 0, none⟩), .int .i64 3, .int .i64 o] w fun e w' => e = .returned (.tuple #[.agg #[.int .i64 3, .int .i64 o, .int .i64 0, .slice none 0 0], .bool false]) ∧ Fr (fun _ => False) w w' (fun _ => False) := by
  obtain ⟨a, cp, hv⟩ := hl.nil
  have hb : b < w.heap.size := World.block_lt_of_cell? _ _ (hcells 0 (by omega)).1
  have c3 := (hcells 5 (by omega)).1
  rw [hv] at c3
  clear hl hcells hv
  go_enter Tryz.func146, Tryz.ntmps146
  go_wp2
  refine bodyPost_ret (v := .tuple #[.agg #[.int .i64 3, .int .i64 o, .int .i64 0, .slice none 0 0], .bool false]) (by simp [results, Tryz.results146, go_sem]) rfl ⟨rfl, ?_⟩
  exact ((Fr.refl _ _).alloc _).alloc _
set_option maxHeartbeats 2000000 in
theorem world4n {w : World} {b : Nat} {c : Nat → Value} {P : Nat → Prop} (hcells : LAt w b c) (o : Int) (hl : ValsC w (c 6) [] P) :
    Calls Tryz.prog 146 #[.pointer (some ⟨b, 0, none⟩), .int .i64 4, .int .i64 o] w fun e w' => e = .returned (.tuple #[.agg #[.int .i64 4, .int .i64 o, .int .i64 0, .slice none 0 0], .bool false]) ∧ Fr (fun _ => False) w w' (fun _ => False) := by
  obtain ⟨a, cp, hv⟩ := hl.nil
  have hb : b < w.heap.size := World.block_lt_of_cell? _ _ (hcells 0 (by omega)).1
  have c3 := (hcells 6 (by omega)).1
  rw [hv] at c3
  clear hl hcells hv
  go_enter Tryz.func146, Tryz.ntmps146
  go_wp2
  refine bodyPost_ret (v := .tuple #[.agg #[.int .i64 4, .int .i64 o, .int .i64 0, .slice none 0 0], .bool false]) (by simp [results, Tryz.results146, go_sem]) rfl ⟨rfl, ?_⟩
  exact ((Fr.refl _ _).alloc _).alloc _
set_option maxHeartbeats 2000000 in
theorem world2 {w : World} {b : Nat} {c : Nat → Value} {P : Nat → Prop} (hcells : LAt w b c) (hP : ∀ q, P q → q < w.heap.size ∧ q ≠ b) {l0 : List Int} {r : List (List Int)} (hlen : l0.length ≤ 100000000) (hl : BatsC w (c 4) (l0 :: r) P) :
    ∃ v', BatsC w v' r P ∧ Calls Tryz.prog 146 #[.pointer (some ⟨b, 0, none⟩), .int .i64 2, .int .i64 0] w (WAns w b c 2 0 0 (filesL l0) 4 v') := by
  obtain ⟨vals, hvals, hvl, hall⟩ := hl
  cases vals with
  | nil => simp at hvl
  | cons u us =>
    obtain ⟨q, off, cp, hv, hcp, hq, hz, ht⟩ := ValsC.cons hvals
    refine ⟨_, ⟨us, ht, by simpa using hvl, fun i x l hx hl => hall (i + 1) x l (by simpa using hx) (by simpa using hl)⟩, ?_⟩
    have hu := hall 0 u l0 rfl rfl
    have hb : b < w.heap.size := World.block_lt_of_cell? _ _ (hcells 0 (by omega)).1
    have c3 := (hcells 4 (by omega)).1
    have z3 := (hcells 4 (by omega)).2
    rw [hv] at c3
    obtain ⟨hq1, hq2⟩ := hP q hq
    have hFF : ∀ W : World, Fr (fun _ => False) w W (fun _ => False) → Calls Tryz.prog 157 #[u] W fun e w' => ∃ v', e = .returned v' ∧ OwnI w' W.heap.size v' (filesL l0) ∧ Fr (fun _ => False) W w' (fun _ => False) := fun W hW =>
      rfiles_any (P := P) (fun q hq => Nat.lt_of_lt_of_le (hP q hq).1 hW.size) (intsIn_kept hu (fun q hq => hW.same q (hP q hq).1 (fun h => h)) (fun _ h => h)) hlen
    obtain ⟨ua, uc, hue, hud⟩ := hu
    clear hud
    subst hue
    have HFF := hide hFF
    have HC := hide hcells
    have f2 : Fr (fun _ => False) w ((w.alloc (.cells #[.int .i64 0, .int .i64 0, .int .i64 0, .slice none 0 0] 49)).alloc (.cells #[.int .i64 2, .int .i64 0, .int .i64 0, .slice none 0 0] 49)) (fun _ => False) := ((Fr.refl _ _).alloc _).alloc _
    clear ht hcells hvals hall hvl hFF
    by_cases h1 : cp = 1
    · subst h1
      obtain rfl : us = [] := List.eq_nil_of_length_eq_zero (by omega)
      rw [if_pos rfl]
      go_enter Tryz.func146, Tryz.ntmps146
      go_wp2_with fail
      go_at_call 157
      refine (unhide HFF _ f2).mono ?_
      rintro e w2 ⟨fv, rfl, o2, g2⟩
      obtain ⟨va, vc, hfv⟩ := ownI_slice o2
      subst hfv
      have x6 : w2.heap[w.heap.size]? = some (.cells #[.int .i64 0, .int .i64 0, .int .i64 0, .slice none 0 0] 49) := (g2.same _ (by simp; omega) (fun h => h)).trans ((Below.heap_alloc _ _ _ (by simp)).trans (heap_alloc_new _ _))
      have x8 : w2.heap[w.heap.size + 1]? = some (.cells #[.int .i64 2, .int .i64 0, .int .i64 0, .slice none 0 0] 49) := (g2.same _ (by simp; try omega) (fun h => h)).trans (by
        have h := heap_alloc_new (w.alloc (.cells #[.int .i64 0, .int .i64 0, .int .i64 0, .slice none 0 0] 49)) (.cells #[.int .i64 2, .int .i64 0, .int .i64 0, .slice none 0 0] 49)
        rwa [show (w.alloc (.cells #[.int .i64 0, .int .i64 0, .int .i64 0, .slice none 0 0] 49)).heap.size = w.heap.size + 1 by simp] at h)
      have f02 := f2.trans g2
      have c3' := (f02.cell b 4 hb (fun h => h)).trans c3
      have z3' := (f02.frozen b 4 hb (fun h => h)).trans z3
      have k6 := fun j => cell_of_row w2 _ j _ 49 (0, 0) x6
      have t6 := fun j => frozen_rowE x6 j
      have k8 := fun j => cell_of_row w2 _ j _ 49 (0, 0) x8
      have t8 := fun j => frozen_rowE x8 j
      have l6 := (Array.getElem?_eq_some_iff.1 x6).1
      have l8 := (Array.getElem?_eq_some_iff.1 x8).1
      have n1 : ¬ b = w.heap.size := by omega
      have n2 : ¬ w.heap.size = b := by omega
      have n3 : ¬ b = w.heap.size + 1 := by omega
      have n4 : ¬ w.heap.size + 1 = b := by omega
      have hb2 : b < w2.heap.size := Nat.lt_of_lt_of_le hb f02.size
      have O2 := hide o2
      have F02 := hide f02
      clear o2 g2 f02 x6 x8 c3 z3 HFF
      go_wp2
      refine bodyPost_ret (v := .tuple #[.agg #[.int .i64 2, .int .i64 0, .int .i64 0, .slice va (filesL l0).length vc], .bool true]) (by simp [results, Tryz.results146, go_sem, k6]) rfl ?_
      refine ⟨_, rfl, ?_, ?_, ?_⟩
      · exact (((((((unhide HC).block ((unhide F02).same b hb (fun h => h))).other n3).set 4 _ (by omega)).other n1).other n1).other n1).other n1
      · exact (((((((unhide F02).widen (T := fun q => q = b) (fun q h => h.elim)).setCell ⟨w.heap.size + 1, 3, none⟩ _ (.inr (by show w.heap.size ≤ w.heap.size + 1; omega))).setCell ⟨b, 4, none⟩ _ (.inl rfl)).setCell ⟨w.heap.size, 0, none⟩ _ (.inr (Nat.le_refl _))).setCell ⟨w.heap.size, 1, none⟩ _ (.inr (Nat.le_refl _))).setCell ⟨w.heap.size, 2, none⟩ _ (.inr (Nat.le_refl _))).setCell ⟨w.heap.size, 3, none⟩ _ (.inr (Nat.le_refl _))
      · refine rowLow (ownsRow_of_block (unhide O2) (fun q hq => ?_)) (by simp; try omega)
        have hge := (World.ownsRow.lt (unhide O2) q hq).1
        have hge' : w.heap.size + 2 ≤ q := by simpa using hge
        exact (Below.heap_setCell _ _ _ _ (by show q ≠ w.heap.size; omega)).trans ((Below.heap_setCell _ _ _ _ (by show q ≠ w.heap.size; omega)).trans ((Below.heap_setCell _ _ _ _ (by show q ≠ w.heap.size; omega)).trans ((Below.heap_setCell _ _ _ _ (by show q ≠ w.heap.size; omega)).trans ((Below.heap_setCell _ _ _ _ (by show q ≠ b; omega)).trans (Below.heap_setCell _ _ _ _ (by show q ≠ w.heap.size + 1; omega))))))
    · rw [if_neg h1]
      go_enter Tryz.func146, Tryz.ntmps146
      go_wp2_with fail
      go_at_call 157
      refine (unhide HFF _ f2).mono ?_
      rintro e w2 ⟨fv, rfl, o2, g2⟩
      obtain ⟨va, vc, hfv⟩ := ownI_slice o2
      subst hfv
      have x6 : w2.heap[w.heap.size]? = some (.cells #[.int .i64 0, .int .i64 0, .int .i64 0, .slice none 0 0] 49) := (g2.same _ (by simp; omega) (fun h => h)).trans ((Below.heap_alloc _ _ _ (by simp)).trans (heap_alloc_new _ _))
      have x8 : w2.heap[w.heap.size + 1]? = some (.cells #[.int .i64 2, .int .i64 0, .int .i64 0, .slice none 0 0] 49) := (g2.same _ (by simp; try omega) (fun h => h)).trans (by
        have h := heap_alloc_new (w.alloc (.cells #[.int .i64 0, .int .i64 0, .int .i64 0, .slice none 0 0] 49)) (.cells #[.int .i64 2, .int .i64 0, .int .i64 0, .slice none 0 0] 49)
        rwa [show (w.alloc (.cells #[.int .i64 0, .int .i64 0, .int .i64 0, .slice none 0 0] 49)).heap.size = w.heap.size + 1 by simp] at h)
      have f02 := f2.trans g2
      have c3' := (f02.cell b 4 hb (fun h => h)).trans c3
      have z3' := (f02.frozen b 4 hb (fun h => h)).trans z3
      have k6 := fun j => cell_of_row w2 _ j _ 49 (0, 0) x6
      have t6 := fun j => frozen_rowE x6 j
      have k8 := fun j => cell_of_row w2 _ j _ 49 (0, 0) x8
      have t8 := fun j => frozen_rowE x8 j
      have l6 := (Array.getElem?_eq_some_iff.1 x6).1
      have l8 := (Array.getElem?_eq_some_iff.1 x8).1
      have n1 : ¬ b = w.heap.size := by omega
      have n2 : ¬ w.heap.size = b := by omega
      have n3 : ¬ b = w.heap.size + 1 := by omega
      have n4 : ¬ w.heap.size + 1 = b := by omega
      have hb2 : b < w2.heap.size := Nat.lt_of_lt_of_le hb f02.size
      have O2 := hide o2
      have F02 := hide f02
      clear o2 g2 f02 x6 x8 c3 z3 HFF
      go_wp2
      refine bodyPost_ret (v := .tuple #[.agg #[.int .i64 2, .int .i64 0, .int .i64 0, .slice va (filesL l0).length vc], .bool true]) (by simp [results, Tryz.results146, go_sem, k6]) rfl ?_
      refine ⟨_, rfl, ?_, ?_, ?_⟩
      · exact (((((((unhide HC).block ((unhide F02).same b hb (fun h => h))).other n3).set 4 _ (by omega)).other n1).other n1).other n1).other n1
      · exact (((((((unhide F02).widen (T := fun q => q = b) (fun q h => h.elim)).setCell ⟨w.heap.size + 1, 3, none⟩ _ (.inr (by show w.heap.size ≤ w.heap.size + 1; omega))).setCell ⟨b, 4, none⟩ _ (.inl rfl)).setCell ⟨w.heap.size, 0, none⟩ _ (.inr (Nat.le_refl _))).setCell ⟨w.heap.size, 1, none⟩ _ (.inr (Nat.le_refl _))).setCell ⟨w.heap.size, 2, none⟩ _ (.inr (Nat.le_refl _))).setCell ⟨w.heap.size, 3, none⟩ _ (.inr (Nat.le_refl _))
      · refine rowLow (ownsRow_of_block (unhide O2) (fun q hq => ?_)) (by simp; try omega)
        have hge := (World.ownsRow.lt (unhide O2) q hq).1
        have hge' : w.heap.size + 2 ≤ q := by simpa using hge
        exact (Below.heap_setCell _ _ _ _ (by show q ≠ w.heap.size; omega)).trans ((Below.heap_setCell _ _ _ _ (by show q ≠ w.heap.size; omega)).trans ((Below.heap_setCell _ _ _ _ (by show q ≠ w.heap.size; omega)).trans ((Below.heap_setCell _ _ _ _ (by show q ≠ w.heap.size; omega)).trans ((Below.heap_setCell _ _ _ _ (by show q ≠ b; omega)).trans (Below.heap_setCell _ _ _ _ (by show q ≠ w.heap.size + 1; omega))))))
end Go.Proofs.YtfmbebofllgmoaaGreatDoor
namespace Go.Proofs.YtfmbebofllgmoaaGreatDoor
open Go.RowKit

theorem info3v : (Tryz.prog.info? 3).map (fun i => (i.zero, i.size, i.bytes)) = some (some (.int .i64 0), 1, 8) := by kernel_rfl
theorem make_nums (n : Nat) (hn : n ≤ 1000000000) (w : World) : (Instr.makeSlice 26 (.int .i64 ((n : Int) + 4)) (.int .i64 ((n : Int) + 4))).run Tryz.prog w =
    .ok (.slice (some ⟨w.heap.size, 0, none⟩) (n + 4) (n + 4)) (w.alloc (.cells (madeCells #[.int .i64 0] (n + 4)) 3)) := by
  have h := info3v
  cases hi : Tryz.prog.info? 3 with
  | none => rw [hi] at h; cases h
  | some i =>
    rw [hi] at h
    simp only [Option.map_some, Option.some.injEq, Prod.mk.injEq] at h
    obtain ⟨hz, hs, hb⟩ := h
    have := run_make (P := Tryz.prog) w 26 3 i _ Tryz.underlying26 hi hz .i64 .i64 ((n : Int) + 4) ((n : Int) + 4) (by omega) (by omega) (by rw [hb]; omega) (by omega)
    rw [this, hs]
    have e : ((n : Int) + 4).toNat = n + 4 := by omega
    rw [e, Nat.mul_one]
    rfl

/-- A copy of l in block g, as far as it is made (k of l.length + 4). -/
structure OwnN (w : World) (g k : Nat) (l : List Int) : Prop where
  there : Writable w g (l.length + 4)
  cells : ∀ i, i < k → w.cell? ⟨g, i, none⟩ = some (.int .i64 (l.getD i 3))
theorem OwnN.below {w w' : World} {B g k : Nat} {l : List Int} (h : OwnN w g k l) (hb : Below B w w') (hg : g < B) : OwnN w' g k l :=
  ⟨h.there.below hb hg, fun i hi => (hb.cell (p := ⟨g, _, none⟩) hg).trans (h.cells i hi)⟩
theorem OwnN.setCell {w : World} {g k : Nat} {l : List Int} (h : OwnN w g k l) {a : Addr} (hne : a.block ≠ g) (v : Value) : OwnN (w.setCell a v) g k l :=
  ⟨h.there.setCell _ _, fun i hi => (World.cell?_setCell_other _ _ _ _ (fun he => hne (by rw [he]))).trans (h.cells i hi)⟩
theorem OwnN.step {w : World} {g k : Nat} {l : List Int} (h : OwnN w g k l) (hk : k < l.length + 4) {z : Int} (hz : z = l.getD k 3) : OwnN (w.setCell ⟨g, k, none⟩ (.int .i64 z)) g (k + 1) l := by
  refine ⟨h.there.setCell _ _, fun i hi => ?_⟩
  by_cases e : i = k
  · subst e; rw [World.cell?_setCell_same' _ _ _ (h.there _ hk).1, hz]
  · rw [World.cell?_setCell_other _ _ _ _ (by intro he; injection he; omega)]; exact h.cells i (by omega)
theorem OwnN.over {w : World} {g k : Nat} {l : List Int} (h : OwnN w g k l) (z : Int) : OwnN (w.setCell ⟨g, k, none⟩ (.int .i64 z)) g k l :=
  ⟨h.there.setCell _ _, fun i hi => (World.cell?_setCell_other _ _ _ _ (by intro he; injection he; omega)).trans (h.cells i hi)⟩
theorem OwnN.dr {w w' : World} {g k : Nat} {l : List Int} (hx : OwnN w g k l) (h : Dr w w') : OwnN w' g k l := by
  obtain ⟨m, rfl⟩ := h; exact ⟨hx.there, hx.cells⟩
theorem intsIn_dr {w w' : World} (h : Dr w w') {v : Value} {l : List Int} {P : Nat → Prop} (hx : IntsIn w v l P) : IntsIn w' v l P := by
  obtain ⟨m, rfl⟩ := h; exact hx

set_option maxHeartbeats 400000 in
theorem numbersL_any {v : Value} {l : List Int} {P : Nat → Prop} {w : World} (hP : ∀ q, P q → q < w.heap.size) (hv : IntsIn w v l P) (hn : l.length ≤ 1000000000) :
    Calls Tryz.prog 105 #[v] w fun e w' => e = .returned (.slice (some ⟨w.heap.size, 0, none⟩) l.length (l.length + 4)) ∧ Below w.heap.size w w' ∧ w.heap.size < w'.heap.size ∧ OwnN w' w.heap.size (l.length + 4) l := by
  obtain ⟨a, c, rfl, hf⟩ := hv
  have hmk := make_nums l.length hn
  have HF := hide hf
  have HP := hide hP
  clear hf hP
  go_enter Tryz.func105, Tryz.ntmps105
  go_wp2
  go_loopw [4] (fun i wr => ∃ k : Nat, k ≤ l.length + 4 ∧ i = .int .i64 k ∧ Below w.heap.size w wr ∧ w.heap.size < wr.heap.size ∧ OwnN wr w.heap.size k l) (fun i _ => l.length + 4 - (intOf i).toNat)
  case atStart => exact ⟨0, Nat.zero_le _, rfl, (Below.refl _ _).alloc (Nat.le_refl _) _, by simp, writable_made _ _ _ _, fun i hi => absurd hi (Nat.not_lt_zero _)⟩
  case round =>
    obtain ⟨k, hk, rfl, hb, hsz, ho⟩ := hrel
    by_cases hlt : k < l.length + 4
    · obtain ⟨t0, z0⟩ := ho.there k (by omega)
      obtain ⟨v0, c0⟩ := Option.isSome_iff_exists.1 t0
      have HO := hide ho
      clear ho t0
      by_cases hkn : k < l.length
      · rcases unhide HF with hz | ⟨b, off, rfl, hq, hf⟩
        · subst hz; simp at hkn
        have g0 := hf k hkn
        have hlt' : b < w.heap.size := unhide HP b hq
        rw [← hb.cell (p := ⟨b, _, none⟩) hlt'] at g0
        have hne : ¬ w.heap.size = b := by omega
        have hne' : ¬ b = w.heap.size := by omega
        have hge : l.getD k 0 = l.getD k 3 := by rw [List.getD_eq_getElem?_getD, List.getD_eq_getElem?_getD, List.getElem?_eq_getElem hkn]; rfl
        clear hf hq
        generalize l.getD k 0 = x at *
        have HX := hide hge
        clear hge
        go_wp2
        go_roundw
        case rel => exact ⟨k + 1, by omega, by go_num, (hb.setCell (by simp) _).setCell (by simp) _, by simpa using hsz, ((unhide HO).over 3).step hlt (unhide HX)⟩
        case measure => simp [intOf]; omega
      · go_wp2
        go_roundw
        case rel => exact ⟨k + 1, by omega, by go_num, hb.setCell (by simp) _, by simpa using hsz, (unhide HO).step hlt (by rw [List.getD_eq_getElem?_getD, List.getElem?_eq_none (by omega)]; rfl)⟩
        case measure => simp [intOf]; omega
    · go_wp2
      go_ret
      obtain rfl : k = l.length + 4 := by omega
      exact ⟨rfl, hb, hsz, ho⟩

set_option maxHeartbeats 400000 in
theorem sameNumbers_any {g : Nat} {v : Value} {l : List Int} {P : Nat → Prop} {w : World} (hv : IntsIn w v l P) (ho : OwnN w g (l.length + 4) l) (hn : l.length ≤ 1000000000) :
    Calls Tryz.prog 110 #[.slice (some ⟨g, 0, none⟩) l.length (l.length + 4), v] w fun e w' => e = .returned (.bool true) ∧ Dr w w' := by
  obtain ⟨a, c, rfl, hf⟩ := hv
  have HF := hide hf
  clear hf
  have hn1 : (0 : Int) ≤ (l.length : Int) + 4 := by omega
  have hn2 : (l.length : Int) + 4 ≤ 140737488351232 := by omega
  go_enter Tryz.func110, Tryz.ntmps110
  go_wp2
  clear hn2 hn1
  go_loopw [6] (fun i wr => ∃ k : Nat, k ≤ l.length + 4 ∧ i = .int .i64 k ∧ Dr w wr) (fun i _ => l.length + 4 - (intOf i).toNat)
  case atStart => exact ⟨0, Nat.zero_le _, rfl, Dr.refl _⟩
  case round =>
    obtain ⟨k, hk, rfl, hd⟩ := hrel
    by_cases hlt : k < l.length + 4
    · have o0 := ho.cells k hlt
      rw [← hd.cell] at o0
      by_cases hkn : k < l.length
      · rcases unhide HF with hz | ⟨b, off, rfl, hq, hf⟩
        · subst hz; simp at hkn
        have g0 := hf k hkn
        rw [← hd.cell] at g0
        clear hf hq
        have hge : l.getD k 3 = l.getD k 0 := by rw [List.getD_eq_getElem?_getD, List.getD_eq_getElem?_getD, List.getElem?_eq_getElem hkn]; rfl
        rw [hge] at o0
        clear hge
        generalize l.getD k 0 = x at *
        have hk0 : (0 : Int) ≤ (k : Int) := by omega
        have hk1 : (k : Int) < (l.length : Int) := by omega
        have hk2 : (k : Int) < (l.length : Int) + 4 := by omega
        go_wp2
        go_quiet (fail)
        go_wp2
        go_roundw
        case rel => exact ⟨k + 1, by omega, by go_num, hd.more _⟩
        case measure => simp [intOf]; omega
      · have hge : l.getD k 3 = 3 := by rw [List.getD_eq_getElem?_getD, List.getElem?_eq_none (by omega)]; rfl
        rw [hge] at o0
        clear hge
        have hg : decide ((k : Int) < (l.length : Int)) = false := by simp; omega
        have hk0 : (0 : Int) ≤ (k : Int) := by omega
        have hk2 : (k : Int) < (l.length : Int) + 4 := by omega
        go_wp2
        go_quiet (fail)
        go_wp2
        go_roundw
        case rel => exact ⟨k + 1, by omega, by go_num, hd.more _⟩
        case measure => simp [intOf]; omega
    · go_wp2
      go_ret
      exact ⟨by simp, hd⟩

set_option maxHeartbeats 400000 in
theorem sameEventsL_any (n : Nat) (v1 v2 : Value) (f : Nat → O3) (w : World) (h1 : OpsIn w v1 n f) (h2 : OpsIn w v2 n f) :
    Calls Tryz.prog 74 #[v1, v2] w fun e w' => e = .returned (.bool true) ∧ Dr w w' := by
  obtain ⟨a, c, rfl, hn, hf⟩ := h1
  obtain ⟨a', c', rfl, _, hf'⟩ := h2
  have HF := hide hf
  have HF' := hide hf'
  clear hf hf'
  go_enter Tryz.func74, Tryz.ntmps74
  go_wp2
  go_loopw [5] (fun i wr => ∃ k : Nat, k ≤ n ∧ i = .int .i64 k ∧ Dr w wr) (fun i _ => n - (intOf i).toNat)
  case atStart => exact ⟨0, Nat.zero_le _, rfl, Dr.refl _⟩
  case round =>
    obtain ⟨k, hk, rfl, hd⟩ := hrel
    by_cases hlt : k < n
    · rcases unhide HF with hz | ⟨b, off, rfl, hf⟩
      · omega
      rcases unhide HF' with hz | ⟨b', off', rfl, hf'⟩
      · omega
      obtain ⟨g0, g1, g2⟩ := hf k hlt
      obtain ⟨o0, o1, o2⟩ := hf' k hlt
      rw [← hd.cell] at g0 g1 g2 o0 o1 o2
      clear hf hf'
      generalize f k = x at *
      have hk0 : (0 : Int) ≤ (k : Int) := by omega
      have hk1 : (k : Int) < (n : Int) := by omega
      go_wp2
      go_quiet (fail)
      go_wp2
      go_roundw
      case rel => exact ⟨k + 1, by omega, by go_num, hd.more _⟩
      case measure => simp [intOf]; omega
    · go_wp2
      go_ret
      exact ⟨rfl, hd⟩
end Go.Proofs.YtfmbebofllgmoaaGreatDoor
namespace Go.Proofs.YtfmbebofllgmoaaGreatDoor
open Go.RowKit
attribute [local go_sem ↓] Go.wp_at_zero Go.wp_at_succ

theorem OwnN.lt {w : World} {g k : Nat} {l : List Int} (h : OwnN w g k l) (hk : 0 < k) : g < w.heap.size := World.block_lt_of_cell? w ⟨g, 0, none⟩ (h.cells 0 hk)
/-- A copy of a list of lists in block g, as far as it is made (k of n): the lists' own blocks G i. -/
structure OwnBt (w : World) (g n k : Nat) (ls : List (List Int)) (G : Nat → Nat) : Prop where
  there : Writable w g (n + 4)
  heads : ∀ i, i < k → i < n → w.cell? ⟨g, i, none⟩ = some (.slice (some ⟨G i, 0, none⟩) (ls.getD i []).length ((ls.getD i []).length + 4))
  far : ∀ i, i < k → i < n → g < G i ∧ G i < w.heap.size
  own : ∀ i, i < k → i < n → OwnN w (G i) ((ls.getD i []).length + 4) (ls.getD i [])
theorem OwnBt.below {w w' : World} {B g n k : Nat} {ls : List (List Int)} {G : Nat → Nat} (h : OwnBt w g n k ls G) (hb : Below B w w') (hg : g < B) (hG : ∀ i, i < k → i < n → G i < B) : OwnBt w' g n k ls G :=
  ⟨h.there.below hb hg, fun i hi hn => (hb.cell (p := ⟨g, _, none⟩) hg).trans (h.heads i hi hn), fun i hi hn => ⟨(h.far i hi hn).1, Nat.lt_of_lt_of_le (h.far i hi hn).2 hb.size⟩, fun i hi hn => (h.own i hi hn).below hb (hG i hi hn)⟩
theorem OwnBt.step {w : World} {g n k q : Nat} {ls : List (List Int)} {G : Nat → Nat} (h : OwnBt w g n k ls G) (hk : k < n) (hq : g < q ∧ q < w.heap.size) (ho : OwnN w q ((ls.getD k []).length + 4) (ls.getD k [])) :
    OwnBt (w.setCell ⟨g, k, none⟩ (.slice (some ⟨q, 0, none⟩) (ls.getD k []).length ((ls.getD k []).length + 4))) g n (k + 1) ls (fun i => if i = k then q else G i) := by
  refine ⟨h.there.setCell _ _, ?_, ?_, ?_⟩
  · intro i hi hn
    by_cases e : i = k
    · subst e
      simp only [if_true]
      exact World.cell?_setCell_same' _ _ _ (h.there _ (by omega)).1
    · simp only [e, if_false]
      rw [World.cell?_setCell_other _ _ _ _ (by intro he; injection he; omega)]
      exact h.heads i (by omega) hn
  · intro i hi hn
    by_cases e : i = k
    · simp only [e, if_true]; simpa using hq
    · simp only [e, if_false]; simpa using h.far i (by omega) hn
  · intro i hi hn
    by_cases e : i = k
    · subst e
      simp only [if_true]
      exact ho.setCell (by simp; omega) _
    · simp only [e, if_false]
      exact (h.own i (by omega) hn).setCell (by have := (h.far i (by omega) hn).1; simp; omega) _
theorem OwnBt.pad {w : World} {g n k : Nat} {ls : List (List Int)} {G : Nat → Nat} (h : OwnBt w g n k ls G) (hk : n ≤ k) (v : Value) : OwnBt (w.setCell ⟨g, k, none⟩ v) g n (k + 1) ls G :=
  ⟨h.there.setCell _ _, fun i hi hn => by
    rw [World.cell?_setCell_other _ _ _ _ (by intro he; injection he; omega)]
    exact h.heads i (by omega) hn, fun i hi hn => by simpa using h.far i (by omega) hn, fun i hi hn => (h.own i (by omega) hn).setCell (by have := (h.far i (by omega) hn).1; simp; omega) _⟩
theorem OwnBt.setCell {w : World} {g n k : Nat} {ls : List (List Int)} {G : Nat → Nat} (h : OwnBt w g n k ls G) {a : Addr} (ha : a.block < g) (v : Value) : OwnBt (w.setCell a v) g n k ls G :=
  ⟨h.there.setCell _ _, fun i hi hn => (World.cell?_setCell_other _ _ _ _ (fun he => by rw [he] at ha; exact absurd ha (Nat.lt_irrefl _))).trans (h.heads i hi hn), fun i hi hn => by simpa using h.far i hi hn, fun i hi hn => (h.own i hi hn).setCell (by have := (h.far i hi hn).1; omega) _⟩
def sN (g : Nat) (l : List Int) : Value := .slice (some ⟨g, 0, none⟩) l.length (l.length + 4)
/-- The copy of a world while its batches are being copied. -/
structure WV (w wr : World) (v0 v1 v2 v3 : Value) (wb g0 g2 g3 : Nat) (vb : Value) (lc lp ll : List Int) : Prop where
  bel : Below w.heap.size w wr
  bx : wr.heap[w.heap.size]? = some (.cells #[v0, v1, v2, v3] 29)
  rs : wr.heap[w.heap.size + 1]? = some (.cells #[.slice none 0 0, .slice none 0 0, .slice none 0 0, .slice none 0 0] 29)
  wb_ : wr.heap[wb]? = some (.cells #[sN g0 lc, vb, sN g2 lp, sN g3 ll] 29)
  wbB : w.heap.size + 1 < wb
  l0 : w.heap.size + 1 < g0 ∧ g0 ≠ wb
  l2 : w.heap.size + 1 < g2 ∧ g2 ≠ wb
  l3 : w.heap.size + 1 < g3 ∧ g3 ≠ wb
  o0 : OwnN wr g0 (lc.length + 4) lc
  o2 : OwnN wr g2 (lp.length + 4) lp
  o3 : OwnN wr g3 (ll.length + 4) ll
section
variable {w wr W : World} {v0 v1 v2 v3 vb : Value} {wb g0 g2 g3 : Nat} {lc lp ll : List Int}
theorem WV.size (h : WV w wr v0 v1 v2 v3 wb g0 g2 g3 vb lc lp ll) : w.heap.size + 1 < wr.heap.size ∧ wb < wr.heap.size ∧ g0 < wr.heap.size ∧ g2 < wr.heap.size ∧ g3 < wr.heap.size :=
  ⟨(Array.getElem?_eq_some_iff.1 h.rs).1, (Array.getElem?_eq_some_iff.1 h.wb_).1, h.o0.lt (by omega), h.o2.lt (by omega), h.o3.lt (by omega)⟩
theorem WV.below (h : WV w wr v0 v1 v2 v3 wb g0 g2 g3 vb lc lp ll) (hb : Below wr.heap.size wr W) : WV w W v0 v1 v2 v3 wb g0 g2 g3 vb lc lp ll := by
  obtain ⟨s1, s2, s3, s4, s5⟩ := h.size
  exact ⟨h.bel.trans (hb.mono h.bel.size), (hb.block _ (by omega)).trans h.bx, (hb.block _ s1).trans h.rs, (hb.block _ s2).trans h.wb_, h.wbB, h.l0, h.l2, h.l3, h.o0.below hb s3, h.o2.below hb s4, h.o3.below hb s5⟩
theorem WV.setVb (h : WV w wr v0 v1 v2 v3 wb g0 g2 g3 vb lc lp ll) (v : Value) : WV w (wr.setCell ⟨wb, 1, none⟩ v) v0 v1 v2 v3 wb g0 g2 g3 v lc lp ll := by
  have hB := h.wbB
  refine ⟨h.bel.setCell (by show w.heap.size ≤ wb; omega) _, (Below.heap_setCell _ _ _ _ (by show _ ≠ wb; omega)).trans h.bx, (Below.heap_setCell _ _ _ _ (by show _ ≠ wb; omega)).trans h.rs, ?_, h.wbB, h.l0, h.l2, h.l3,
    h.o0.setCell (Ne.symm h.l0.2) _, h.o2.setCell (Ne.symm h.l2.2) _, h.o3.setCell (Ne.symm h.l3.2) _⟩
  have h0 := setRow_heap wr wb _ (#[sN g0 lc, vb, sN g2 lp, sN g3 ll].setIfInBounds 1 v) 29 (0, 0) h.wb_
  rwa [← setCell_eq_setRow wr wb 1 _ 29 (0, 0) v h.wb_] at h0
theorem WV.setFar (h : WV w wr v0 v1 v2 v3 wb g0 g2 g3 vb lc lp ll) {q : Nat} (hq : w.heap.size + 1 < q ∧ q ≠ wb ∧ q ≠ g0 ∧ q ≠ g2 ∧ q ≠ g3) (i : Nat) (v : Value) : WV w (wr.setCell ⟨q, i, none⟩ v) v0 v1 v2 v3 wb g0 g2 g3 vb lc lp ll := by
  obtain ⟨q1, q2, q3, q4, q5⟩ := hq
  exact ⟨h.bel.setCell (by show w.heap.size ≤ q; omega) _, (Below.heap_setCell _ _ _ _ (by show _ ≠ q; omega)).trans h.bx, (Below.heap_setCell _ _ _ _ (by show _ ≠ q; omega)).trans h.rs, (Below.heap_setCell _ _ _ _ (Ne.symm q2)).trans h.wb_, h.wbB, h.l0, h.l2, h.l3,
    h.o0.setCell q3 _, h.o2.setCell q4 _, h.o3.setCell q5 _⟩
/-- The four lists are laid into the new variable. -/
theorem WV.start (hB : Below w.heap.size w W) (bx : W.heap[w.heap.size]? = some (.cells #[v0, v1, v2, v3] 29)) (rs : W.heap[w.heap.size + 1]? = some (.cells #[.slice none 0 0, .slice none 0 0, .slice none 0 0, .slice none 0 0] 29))
    (hb : W.heap[wb]? = some (.cells #[.slice none 0 0, .slice none 0 0, .slice none 0 0, .slice none 0 0] 29)) (wbB : w.heap.size + 1 < wb) (l0 : w.heap.size + 1 < g0 ∧ g0 ≠ wb) (l2 : w.heap.size + 1 < g2 ∧ g2 ≠ wb) (l3 : w.heap.size + 1 < g3 ∧ g3 ≠ wb)
    (o0 : OwnN W g0 (lc.length + 4) lc) (o2 : OwnN W g2 (lp.length + 4) lp) (o3 : OwnN W g3 (ll.length + 4) ll) :
    WV w ((((W.setCell ⟨wb, 0, none⟩ (.slice (some ⟨g0, 0, none⟩) lc.length (lc.length + 4))).setCell ⟨wb, 1, none⟩ (.slice none 0 0)).setCell ⟨wb, 2, none⟩ (.slice (some ⟨g2, 0, none⟩) lp.length (lp.length + 4))).setCell ⟨wb, 3, none⟩ (.slice (some ⟨g3, 0, none⟩) ll.length (ll.length + 4))) v0 v1 v2 v3 wb g0 g2 g3 (.slice none 0 0) lc lp ll := by
  have st : ∀ (V : World) (c : Array Value) (i : Nat) (x : Value), V.heap[wb]? = some (.cells c 29) → (V.setCell ⟨wb, i, none⟩ x).heap[wb]? = some (.cells (c.setIfInBounds i x) 29) := by
    intro V c i x hV
    have h0 := setRow_heap V wb c (c.setIfInBounds i x) 29 (0, 0) hV
    rw [← setCell_eq_setRow V wb i c 29 (0, 0) x hV] at h0
    exact h0
  have h4 := st _ _ 3 (sN g3 ll) (st _ _ 2 (sN g2 lp) (st _ _ 1 (.slice none 0 0) (st _ _ 0 (sN g0 lc) hb)))
  simp only [List.setIfInBounds_toArray, List.set] at h4
  have e4 : ∀ q, q ≠ wb → ((((W.setCell ⟨wb, 0, none⟩ (sN g0 lc)).setCell ⟨wb, 1, none⟩ (.slice none 0 0)).setCell ⟨wb, 2, none⟩ (sN g2 lp)).setCell ⟨wb, 3, none⟩ (sN g3 ll)).heap[q]? = W.heap[q]? := fun q hq => by
    rw [Below.heap_setCell _ _ _ _ hq, Below.heap_setCell _ _ _ _ hq, Below.heap_setCell _ _ _ _ hq, Below.heap_setCell _ _ _ _ hq]
  refine ⟨(((hB.setCell (by show w.heap.size ≤ wb; omega) _).setCell (by show w.heap.size ≤ wb; omega) _).setCell (by show w.heap.size ≤ wb; omega) _).setCell (by show w.heap.size ≤ wb; omega) _, (e4 _ (by omega)).trans bx, (e4 _ (by omega)).trans rs, h4, wbB, l0, l2, l3, ?_, ?_, ?_⟩
  · exact (((o0.setCell (Ne.symm l0.2) _).setCell (Ne.symm l0.2) _).setCell (Ne.symm l0.2) _).setCell (Ne.symm l0.2) _
  · exact (((o2.setCell (Ne.symm l2.2) _).setCell (Ne.symm l2.2) _).setCell (Ne.symm l2.2) _).setCell (Ne.symm l2.2) _
  · exact (((o3.setCell (Ne.symm l3.2) _).setCell (Ne.symm l3.2) _).setCell (Ne.symm l3.2) _).setCell (Ne.symm l3.2) _
end
theorem info26v : (Tryz.prog.info? 26).map (fun i => (i.zero, i.size, i.bytes)) = some (some (.slice none 0 0), 1, 24) := by kernel_rfl
theorem make_bats (n : Nat) (hn : n ≤ 1000000000) (w : World) : (Instr.makeSlice 27 (.int .i64 ((n : Int) + 4)) (.int .i64 ((n : Int) + 4))).run Tryz.prog w =
    .ok (.slice (some ⟨w.heap.size, 0, none⟩) (n + 4) (n + 4)) (w.alloc (.cells (madeCells #[.slice none 0 0] (n + 4)) 26)) := by
  have h := info26v
  cases hi : Tryz.prog.info? 26 with
  | none => rw [hi] at h; cases h
  | some i =>
    rw [hi] at h
    simp only [Option.map_some, Option.some.injEq, Prod.mk.injEq] at h
    obtain ⟨hz, hs, hb⟩ := h
    have := run_make (P := Tryz.prog) w 27 26 i _ Tryz.underlying27 hi hz .i64 .i64 ((n : Int) + 4) ((n : Int) + 4) (by omega) (by omega) (by rw [hb]; omega) (by omega)
    rw [this, hs]
    have e : ((n : Int) + 4).toNat = n + 4 := by omega
    rw [e, Nat.mul_one]
    rfl
theorem numbersB {w X : World} {v : Value} {l : List Int} {P : Nat → Prop} (hB : Below w.heap.size w X) (hP : ∀ q, P q → q < w.heap.size) (hv : IntsIn w v l P) (hn : l.length ≤ 1000000000) :
    Calls Tryz.prog 105 #[v] X fun e w' => e = .returned (.slice (some ⟨X.heap.size, 0, none⟩) l.length (l.length + 4)) ∧ Below X.heap.size X w' ∧ X.heap.size < w'.heap.size ∧ OwnN w' X.heap.size (l.length + 4) l :=
  numbersL_any (fun q hq => Nat.lt_of_lt_of_le (hP q hq) hB.size) (intsIn_kept hv (fun q hq => hB.block q (hP q hq)) (fun _ h => h)) hn
/-- The loop over the batches. -/
def WBRel (w : World) (v0 v1 v2 v3 : Value) (wb g0 g2 g3 gb n : Nat) (lc lp ll : List Int) (ls : List (List Int)) (u : Value) (wr : World) : Prop :=
  ∃ k : Nat, k ≤ n + 4 ∧ u = .int .i64 k ∧ ∃ G, WV w wr v0 v1 v2 v3 wb g0 g2 g3 (.slice (some ⟨gb, 0, none⟩) (n + 4) (n + 4)) lc lp ll ∧ OwnBt wr gb n k ls G ∧ wb < gb ∧ g0 < gb ∧ g2 < gb ∧ g3 < gb
end Go.Proofs.YtfmbebofllgmoaaGreatDoor
namespace Go.Proofs.YtfmbebofllgmoaaGreatDoor
open Go.RowKit
attribute [local go_sem ↓] Go.wp_at_zero Go.wp_at_succ

theorem allocd {Y W : World} {o : Obj} (hb : Below (Y.alloc o).heap.size (Y.alloc o) W) : W.heap[Y.heap.size]? = some o := (hb.block _ (by simp)).trans (heap_alloc_new _ _)
theorem allocdD {Y W : World} {o : Obj} (hb : Below (Y.alloc o).drew.heap.size (Y.alloc o).drew W) : W.heap[Y.heap.size]? = some o := (hb.block _ (by simp)).trans (heap_alloc_new _ _)
theorem keepblk {X W : World} {q : Nat} {o : Obj} (hb : Below X.heap.size X W) (h : X.heap[q]? = some o) : W.heap[q]? = some o := (hb.block _ (Array.getElem?_eq_some_iff.1 h).1).trans h
theorem keepB3 {w X Y : World} {v0 v2 v3 : Value} (hb : Below X.heap.size X Y) (h : X.cell? ⟨w.heap.size, 0, none⟩ = some v0 ∧ X.cell? ⟨w.heap.size, 2, none⟩ = some v2 ∧ X.cell? ⟨w.heap.size, 3, none⟩ = some v3) :
    Y.cell? ⟨w.heap.size, 0, none⟩ = some v0 ∧ Y.cell? ⟨w.heap.size, 2, none⟩ = some v2 ∧ Y.cell? ⟨w.heap.size, 3, none⟩ = some v3 := by
  have hl : w.heap.size < X.heap.size := World.block_lt_of_cell? X _ h.1
  exact ⟨(bcel hb _ _ hl).trans h.1, (bcel hb _ _ hl).trans h.2.1, (bcel hb _ _ hl).trans h.2.2⟩
theorem keepS4 {w X : World} {wb : Nat} {v0 v2 v3 : Value} (hne : w.heap.size < wb) (x y z u : Value) (h : X.cell? ⟨w.heap.size, 0, none⟩ = some v0 ∧ X.cell? ⟨w.heap.size, 2, none⟩ = some v2 ∧ X.cell? ⟨w.heap.size, 3, none⟩ = some v3) :
    ((((X.setCell ⟨wb, 0, none⟩ x).setCell ⟨wb, 1, none⟩ y).setCell ⟨wb, 2, none⟩ z).setCell ⟨wb, 3, none⟩ u).cell? ⟨w.heap.size, 0, none⟩ = some v0 ∧ ((((X.setCell ⟨wb, 0, none⟩ x).setCell ⟨wb, 1, none⟩ y).setCell ⟨wb, 2, none⟩ z).setCell ⟨wb, 3, none⟩ u).cell? ⟨w.heap.size, 2, none⟩ = some v2 ∧ ((((X.setCell ⟨wb, 0, none⟩ x).setCell ⟨wb, 1, none⟩ y).setCell ⟨wb, 2, none⟩ z).setCell ⟨wb, 3, none⟩ u).cell? ⟨w.heap.size, 3, none⟩ = some v3 := by
  have e : ∀ i j, (⟨wb, j, none⟩ : Addr) ≠ ⟨w.heap.size, i, none⟩ := fun i j he => by injection he; omega
  refine ⟨?_, ?_, ?_⟩
  · rw [World.cell?_setCell_other _ _ _ _ (e _ _), World.cell?_setCell_other _ _ _ _ (e _ _), World.cell?_setCell_other _ _ _ _ (e _ _), World.cell?_setCell_other _ _ _ _ (e _ _)]; exact h.1
  · rw [World.cell?_setCell_other _ _ _ _ (e _ _), World.cell?_setCell_other _ _ _ _ (e _ _), World.cell?_setCell_other _ _ _ _ (e _ _), World.cell?_setCell_other _ _ _ _ (e _ _)]; exact h.2.1
  · rw [World.cell?_setCell_other _ _ _ _ (e _ _), World.cell?_setCell_other _ _ _ _ (e _ _), World.cell?_setCell_other _ _ _ _ (e _ _), World.cell?_setCell_other _ _ _ _ (e _ _)]; exact h.2.2

set_option maxHeartbeats 4000000 in
set_option maxRecDepth 20000 in
theorem world_any {w : World} {v0 v1 v2 v3 : Value} {lc lp ll : List Int} {bs : List (Value × List Int)} {P : Nat → Prop} (hP : ∀ q, P q → q < w.heap.size)
    (h0 : IntsIn w v0 lc P) (h1 : ValsIn w v1 (bs.map (·.1)) P) (h2 : IntsIn w v2 lp P) (h3 : IntsIn w v3 ll P) (hbs : ∀ b, b ∈ bs → IntsIn w b.1 b.2 P ∧ b.2.length ≤ 1000000000)
    (n0 : lc.length ≤ 1000000000) (n1 : bs.length ≤ 1000000000) (n2 : lp.length ≤ 1000000000) (n3 : ll.length ≤ 1000000000) :
    Calls Tryz.prog 71 #[.agg #[v0, v1, v2, v3]] w fun e w' => ∃ g0 gb g2 g3 G, e = .returned (.agg #[sN g0 lc, .slice (some ⟨gb, 0, none⟩) bs.length (bs.length + 4), sN g2 lp, sN g3 ll]) ∧
      Below w.heap.size w w' ∧ w.heap.size ≤ g0 ∧ w.heap.size ≤ gb ∧ w.heap.size ≤ g2 ∧ w.heap.size ≤ g3 ∧ OwnN w' g0 (lc.length + 4) lc ∧ OwnN w' g2 (lp.length + 4) lp ∧ OwnN w' g3 (ll.length + 4) ll ∧ OwnBt w' gb bs.length bs.length (bs.map (·.2)) G := by
  obtain ⟨ba, bc, rfl, hba⟩ := h1
  rw [List.length_map] at *
  obtain ⟨v1, hv1⟩ : ∃ v1, v1 = Value.slice ba bs.length bc := ⟨_, rfl⟩
  obtain ⟨W0, hW⟩ : ∃ W0, W0 = ((w.alloc (.cells #[v0, v1, v2, v3] 29)).alloc (.cells #[.slice none 0 0, .slice none 0 0, .slice none 0 0, .slice none 0 0] 29)) := ⟨_, rfl⟩
  have hB0 : Below w.heap.size w W0 := by subst hW; exact bl2 _ _
  have hsz : W0.heap.size = w.heap.size + 1 + 1 := by subst hW; simp
  have bx : W0.heap[w.heap.size]? = some (.cells #[v0, v1, v2, v3] 29) := by subst hW; exact (Below.heap_alloc _ _ _ (by simp)).trans (heap_alloc_new _ _)
  have rs : W0.heap[w.heap.size + 1]? = some (.cells #[.slice none 0 0, .slice none 0 0, .slice none 0 0, .slice none 0 0] 29) := by
    subst hW
    have h := heap_alloc_new (w.alloc (.cells #[v0, v1, v2, v3] 29)) (.cells #[.slice none 0 0, .slice none 0 0, .slice none 0 0, .slice none 0 0] 29)
    rw [show (w.alloc (.cells #[v0, v1, v2, v3] 29)).heap.size = w.heap.size + 1 by simp] at h
    exact h
  have c0 : W0.cell? ⟨w.heap.size, 0, none⟩ = some v0 := cell_of_row W0 _ 0 _ 29 (0, 0) bx
  have c2 : W0.cell? ⟨w.heap.size, 2, none⟩ = some v2 := cell_of_row W0 _ 2 _ 29 (0, 0) bx
  have c3 : W0.cell? ⟨w.heap.size, 3, none⟩ = some v3 := cell_of_row W0 _ 3 _ 29 (0, 0) bx
  have HC := hide (show W0.cell? ⟨w.heap.size, 0, none⟩ = some v0 ∧ W0.cell? ⟨w.heap.size, 2, none⟩ = some v2 ∧ W0.cell? ⟨w.heap.size, 3, none⟩ = some v3 from ⟨c0, c2, c3⟩)
  have HW := hide hW
  have HS := hide hsz
  have HB0 := hide hB0
  have BX := hide bx
  have RS := hide rs
  have HP := hide hP
  have H0 := hide h0
  have H2 := hide h2
  have H3 := hide h3
  have HBS := hide hbs
  have HBA := hide hba
  have HV1 := hide hv1
  rw [← hv1]
  clear hW hsz hB0 bx rs hP h0 h2 h3 hbs hba hv1 c0 c2 c3
  go_enter Tryz.func71, Tryz.ntmps71
  go_upto_region 1 with fail
  go_cut [3] (fun u wc => ∃ wb g0 g2 g3, u = .pointer (some ⟨wb, 0, none⟩) ∧ WV w wc v0 v1 v2 v3 wb g0 g2 g3 (.slice none 0 0) lc lp ll)
  case first =>
    go_region_held3 (fun w' => w'.cell? ⟨w.heap.size, 0, none⟩ = some v0 ∧ w'.cell? ⟨w.heap.size, 2, none⟩ = some v2 ∧ w'.cell? ⟨w.heap.size, 3, none⟩ = some v3)
      (first | with_reducible exact s3 | with_reducible exact s2 | with_reducible exact s1 | (rw [← unhide HW]; exact unhide HC) | (rw [← unhide HW]; exact keepB3 ((Below.refl _ _).alloc (Nat.le_refl _) _).drew (unhide HC)) | exact keepB3 ((Below.refl _ _).alloc (Nat.le_refl _) _) (by assumption) | exact keepS4 (by have := unhide HS; omega) _ _ _ _ (by assumption))
      (first
        | (go_at_call_of 105 v0; try rw [← unhide HW]
           refine (numbersB (w := w) (by first | exact (unhide HB0).drew | exact ((unhide HB0).alloc (unhide HB0).size _).drew) (unhide HP) (unhide H0) n0).mono ?_
           rintro e w1 ⟨rfl, hb1, hs1, ho1⟩
           have s1 := keepB3 (w := w) hb1 (by first | exact unhide HC | exact keepB3 ((Below.refl _ _).alloc (Nat.le_refl _) _).drew (unhide HC))
           have B1 := hide (show Below w.heap.size w w1 from Below.trans (by first | exact (unhide HB0).drew | exact ((unhide HB0).alloc (unhide HB0).size _).drew) (hb1.mono (by have := unhide HS; simp; omega)))
           have O1 := hide ho1
           have c01 : Below W0.heap.size W0 w1 := by first | exact ((Below.refl W0.heap.size W0).drew).trans hb1 | exact (((Below.refl W0.heap.size W0).alloc (Nat.le_refl _) _).drew).trans (hb1.mono (by simp))
           have q1 : w.heap.size + 1 + 1 < w1.heap.size := by have h1 := unhide HS; have h2 := hs1; (try simp at h2); omega
           first
             | (have zb := allocdD hb1; rw [unhide HS] at zb; have zc := fun j => cell_of_row w1 _ j _ 29 (0, 0) zb; have zf := fun j => frozen_rowE zb j; have ZB := hide zb; clear zb)
             | skip)
        | (go_at_call_of 105 v2
           refine (numbersB (w := w) (by first | exact unhide B1 | exact (unhide B1).alloc (unhide B1).size _) (unhide HP) (unhide H2) n2).mono ?_
           rintro e w2 ⟨rfl, hb2, hs2, ho2⟩
           have s2 := keepB3 (w := w) hb2 (by first | exact s1 | exact keepB3 ((Below.refl _ _).alloc (Nat.le_refl _) _) s1)
           have B2 := hide (show Below w.heap.size w w2 from Below.trans (by first | exact unhide B1 | exact (unhide B1).alloc (unhide B1).size _) (hb2.mono (by have := (unhide B1).size; simp; omega)))
           have O2 := hide ho2
           have c12 : Below w1.heap.size w1 w2 := by first | exact hb2 | exact ((Below.refl _ _).alloc (Nat.le_refl _) _).trans (hb2.mono (by simp))
           have q2 : w1.heap.size < w2.heap.size := by have h2 := hs2; (try simp at h2); omega
           first
             | (have zb := allocd hb2; have zc := fun j => cell_of_row w2 _ j _ 29 (0, 0) zb; have zf := fun j => frozen_rowE zb j; have ZB := hide zb; clear zb)
             | (have zb := keepblk hb2 (unhide ZB); clear zc zf ZB; have zc := fun j => cell_of_row w2 _ j _ 29 (0, 0) zb; have zf := fun j => frozen_rowE zb j; have ZB := hide zb; clear zb)
             | skip)
        | (go_at_call_of 105 v3
           refine (numbersB (w := w) (by first | exact unhide B2 | exact (unhide B2).alloc (unhide B2).size _) (unhide HP) (unhide H3) n3).mono ?_
           rintro e w3 ⟨rfl, hb3, hs3, ho3⟩
           have s3 := keepB3 (w := w) hb3 (by first | exact s2 | exact keepB3 ((Below.refl _ _).alloc (Nat.le_refl _) _) s2)
           have B3 := hide (show Below w.heap.size w w3 from Below.trans (by first | exact unhide B2 | exact (unhide B2).alloc (unhide B2).size _) (hb3.mono (by have := (unhide B2).size; simp; omega)))
           have O3 := hide ho3
           have c23 : Below w2.heap.size w2 w3 := by first | exact hb3 | exact ((Below.refl _ _).alloc (Nat.le_refl _) _).trans (hb3.mono (by simp))
           have q3 : w2.heap.size < w3.heap.size := by have h2 := hs3; (try simp at h2); omega
           first
             | (have zb := allocd hb3; have zc := fun j => cell_of_row w3 _ j _ 29 (0, 0) zb; have zf := fun j => frozen_rowE zb j; have ZB := hide zb; clear zb)
             | (have zb := keepblk hb3 (unhide ZB); clear zc zf ZB; have zc := fun j => cell_of_row w3 _ j _ 29 (0, 0) zb; have zf := fun j => frozen_rowE zb j; have ZB := hide zb; clear zb)
             | skip))
    all_goals
      go_wp2_with fail
      go_meet
      have bx3 := keepblk c23 (keepblk c12 (keepblk c01 (unhide BX)))
      have rs3 := keepblk c23 (keepblk c12 (keepblk c01 (unhide RS)))
      have o0 := (ho1.below c12 hs1).below c23 (Nat.lt_trans hs1 q2)
      have o2 := ho2.below c23 hs2
      have o3 := ho3
      have hS := unhide HS
      first
        | (refine ⟨_, _, _, _, rfl, WV.start (unhide B3) bx3 rs3 (unhide ZB) (by omega) ⟨by omega, by omega⟩ ⟨by omega, by omega⟩ ⟨by omega, by omega⟩ (by simpa using o0) (by simpa using o2) (by simpa using o3)⟩; done)
        | (exact ⟨w3.heap.size, W0.heap.size, w1.heap.size, w2.heap.size, rfl, (unhide B3).alloc (unhide B3).size _, keepblk ((Below.refl _ _).alloc (Nat.le_refl _) _) bx3, keepblk ((Below.refl _ _).alloc (Nat.le_refl _) _) rs3, heap_alloc_new _ _, by omega, ⟨by omega, by omega⟩, ⟨by omega, by omega⟩, ⟨by omega, by omega⟩, o0.below ((Below.refl _ _).alloc (Nat.le_refl _) _) (by show W0.heap.size < _; omega), o2.below ((Below.refl _ _).alloc (Nat.le_refl _) _) (by omega), o3.below ((Below.refl _ _).alloc (Nat.le_refl _) _) (by omega)⟩; done)
  case rest =>
    obtain ⟨wb, g0, g2, g3, rfl, hwv⟩ := hcut
    have hv := unhide HV1
    subst hv
    have hmk := make_bats bs.length n1
    obtain ⟨sz1, sz2, sz3, sz4, sz5⟩ := hwv.size
    have cb := cell_of_row wc _ 1 _ 29 (0, 0) hwv.bx
    have cw := cell_of_row wc _ 1 _ 29 (0, 0) hwv.wb_
    have fw := frozen_rowE hwv.wb_ 1
    have HST := hide (show WBRel w v0 (.slice ba bs.length bc) v2 v3 wb g0 g2 g3 wc.heap.size bs.length lc lp ll (bs.map (·.2)) (.int .i64 0) ((wc.alloc (.cells (madeCells #[.slice none 0 0] (bs.length + 4)) 26)).setCell ⟨wb, 1, none⟩ (.slice (some ⟨wc.heap.size, 0, none⟩) (bs.length + 4) (bs.length + 4))) from
      ⟨0, Nat.zero_le _, rfl, fun _ => 0, (hwv.below ((Below.refl _ _).alloc (Nat.le_refl _) _)).setVb _, ⟨(writable_made _ _ _ _).setCell _ _, fun i hi => absurd hi (Nat.not_lt_zero _), fun i hi => absurd hi (Nat.not_lt_zero _), fun i hi => absurd hi (Nat.not_lt_zero _)⟩, by omega, by omega, by omega, by omega⟩)
    have cw2 : (wc.alloc (.cells (madeCells #[.slice none 0 0] (bs.length + 4)) 26)).cell? ⟨wb, 1, none⟩ = some (.slice none 0 0) := (World.cell?_of_block (w := wc) (a := ⟨wb, 1, none⟩) (Below.heap_alloc _ _ _ sz2)).trans cw
    have fw2 : (wc.alloc (.cells (madeCells #[.slice none 0 0] (bs.length + 4)) 26)).frozen? ⟨wb, 1, none⟩ = false := frozen_rowE ((Below.heap_alloc _ _ _ sz2).trans hwv.wb_) 1
    clear hwv sz1 sz2 sz3 sz4 sz5 cw fw
    go_wp2_with fail
    go_loopw [4] (fun u wr => WBRel w v0 (.slice ba bs.length bc) v2 v3 wb g0 g2 g3 wc.heap.size bs.length lc lp ll (bs.map (·.2)) u wr) (fun i _ => bs.length + 4 - (intOf i).toNat)
    case atStart => exact unhide HST
    case round =>
      obtain ⟨k, hk, rfl, G, hv, hb, o1, o2, o3, o4⟩ := hrel
      have cb := cell_of_row wr _ 1 _ 29 (0, 0) hv.bx
      have cw := cell_of_row wr _ 1 _ 29 (0, 0) hv.wb_
      obtain ⟨sz1, sz2, sz3, sz4, sz5⟩ := hv.size
      by_cases hlt : k < bs.length + 4
      · obtain ⟨t0, z0⟩ := hb.there k (by omega)
        obtain ⟨x0, c0⟩ := Option.isSome_iff_exists.1 t0
        clear t0
        by_cases hkn : k < bs.length
        · rcases unhide HBA with hz | ⟨q, off, rfl, hq, hcell⟩
          · have : bs.length = 0 := by simpa using congrArg List.length hz
            omega
          have hql := unhide HP q hq
          have hmem : bs.getD k (.slice none 0 0, []) ∈ bs := by rw [List.getD_eq_getElem?_getD, List.getElem?_eq_getElem hkn]; exact List.getElem_mem _
          have hval : (bs.map (·.1)).getD k undef = (bs.getD k (.slice none 0 0, [])).1 := by rw [List.getD_eq_getElem?_getD, List.getElem?_map, List.getD_eq_getElem?_getD, List.getElem?_eq_getElem hkn]; rfl
          have hval2 : (bs.map (·.2)).getD k [] = (bs.getD k (.slice none 0 0, [])).2 := by rw [List.getD_eq_getElem?_getD, List.getElem?_map, List.getD_eq_getElem?_getD, List.getElem?_eq_getElem hkn]; rfl
          have cz : wr.cell? ⟨q, off + k, none⟩ = some (bs.getD k (.slice none 0 0, [])).1 := (bcel hv.bel q (off + k) hql).trans ((hcell k hkn).trans (by rw [hval]))
          obtain ⟨hi, hil⟩ := unhide HBS _ hmem
          have H105 := hide (numbersL_any (w := wr.drew) (P := P) (fun q hq => Nat.lt_of_lt_of_le (unhide HP q hq) hv.bel.size) (intsIn_kept hi (fun q hq => hv.bel.block q (unhide HP q hq)) (fun _ h => h)) hil)
          generalize (bs.getD k (.slice none 0 0, [])).2 = l at *
          generalize (bs.getD k (.slice none 0 0, [])).1 = vk at *
          have HV := hide hv
          have HB := hide hb
          have HVAL := hide hval2
          have hk0 : (0 : Int) ≤ (k : Int) := by omega
          have hk1 : (k : Int) < (bs.length : Int) := by omega
          have hk2 : (k : Int) < (bs.length : Int) + 4 := by omega
          have hS := hide (show wr.cell? ⟨w.heap.size, 1, none⟩ = some (.slice (some ⟨q, off, none⟩) bs.length bc) ∧ wr.cell? ⟨wb, 1, none⟩ = some (.slice (some ⟨wc.heap.size, 0, none⟩) (bs.length + 4) (bs.length + 4)) ∧ wr.cell? ⟨q, off + k, none⟩ = some vk from ⟨cb, cw, cz⟩)
          clear hcell hval hmem hi hil hval2 hv hb hq
          go_upto_region 7 with fail
          go_region_held3 (fun w' => w'.cell? ⟨w.heap.size, 1, none⟩ = some (.slice (some ⟨q, off, none⟩) bs.length bc) ∧ w'.cell? ⟨wb, 1, none⟩ = some (.slice (some ⟨wc.heap.size, 0, none⟩) (bs.length + 4) (bs.length + 4)) ∧ w'.cell? ⟨q, off + k, none⟩ = some vk)
            (first | exact unhide hS | exact unhide s1 | exact (unhide s2))
            (first
              | (go_at_call 105; refine (unhide H105).mono ?_
                 rintro e w1 ⟨rfl, hb1, hs1, ho1⟩
                 have s1 := hide (show w1.cell? ⟨w.heap.size, 1, none⟩ = some (.slice (some ⟨q, off, none⟩) bs.length bc) ∧ w1.cell? ⟨wb, 1, none⟩ = some (.slice (some ⟨wc.heap.size, 0, none⟩) (bs.length + 4) (bs.length + 4)) ∧ w1.cell? ⟨q, off + k, none⟩ = some vk from ⟨(bcel hb1 _ _ (by show _ < wr.heap.size; omega)).trans cb, (bcel hb1 _ _ sz2).trans cw, (bcel hb1 _ _ (World.block_lt_of_cell? _ _ cz)).trans cz⟩)
                 have hgl : wc.heap.size < wr.heap.size := World.block_lt_of_cell? _ _ c0
                 have c1 : w1.cell? ⟨wc.heap.size, k, none⟩ = some x0 := (bcel hb1 _ _ hgl).trans c0
                 have z1 : w1.frozen? ⟨wc.heap.size, k, none⟩ = false := (bfro hb1 _ _ hgl).trans z0
                 have V1 := hide ((unhide HV).below (Below.trans (Below.refl _ _).drew hb1))
                 have NB := hide ((unhide HB).below (Below.trans (Below.refl _ _).drew hb1) hgl (fun i hi hn => ((unhide HB).far i hi hn).2))
                 have HQL := hide (World.block_lt_of_cell? _ _ cz)
                 have s2 := hide (show (w1.setCell ⟨wc.heap.size, k, none⟩ (.slice (some ⟨wr.heap.size, 0, none⟩) l.length (l.length + 4))).cell? ⟨w.heap.size, 1, none⟩ = some (.slice (some ⟨q, off, none⟩) bs.length bc) ∧ (w1.setCell ⟨wc.heap.size, k, none⟩ (.slice (some ⟨wr.heap.size, 0, none⟩) l.length (l.length + 4))).cell? ⟨wb, 1, none⟩ = some (.slice (some ⟨wc.heap.size, 0, none⟩) (bs.length + 4) (bs.length + 4)) ∧ (w1.setCell ⟨wc.heap.size, k, none⟩ (.slice (some ⟨wr.heap.size, 0, none⟩) l.length (l.length + 4))).cell? ⟨q, off + k, none⟩ = some vk from ⟨(World.cell?_setCell_other _ _ _ _ (by intro he; injection he; have := (unhide HV).wbB; omega)).trans (unhide s1).1, (World.cell?_setCell_other _ _ _ _ (by intro he; injection he; omega)).trans (unhide s1).2.1, (World.cell?_setCell_other _ _ _ _ (by intro he; injection he; have := (unhide HV).wbB; omega)).trans (unhide s1).2.2⟩)
                 have O1 := hide ho1
                 clear hb1 ho1 cb cw cz c0 z0 HV HB H105))
          go_wp2_with fail
          go_roundw
          case rel => exact ⟨k + 1, by omega, by go_num, _, (unhide V1).setFar (by have := (unhide V1).wbB; omega) _ _, by
            have h := (unhide NB).step hkn (q := wr.heap.size) ⟨hgl, hs1⟩ (by rw [unhide HVAL]; exact unhide O1)
            rw [unhide HVAL] at h
            exact h, o1, o2, o3, o4⟩
          case measure => simp [intOf]; omega
        · have HV := hide hv
          have HB := hide hb
          have hgl : wc.heap.size < wr.heap.size := World.block_lt_of_cell? _ _ c0
          have hne : ¬ (k : Int) < (bs.length : Int) := by omega
          clear hv hb
          go_wp2_with fail
          go_roundw
          case rel =>
            rw [← World.setCell_alloc_past _ _ _ _ hgl]
            exact ⟨k + 1, by omega, by go_num, G, ((unhide HV).below ((Below.refl _ _).alloc (Nat.le_refl _) _)).setFar (by have := (unhide HV).wbB; omega) _ _, ((unhide HB).below ((Below.refl _ _).alloc (Nat.le_refl _) _) hgl (fun i hi hn => ((unhide HB).far i hi hn).2)).pad (by omega) _, o1, o2, o3, o4⟩
          case measure => simp [intOf]; omega
      · obtain rfl : k = bs.length + 4 := by omega
        have HV := hide hv
        have HB := hide hb
        have hwb := hv.wb_
        unfold sN at hwb
        have c2 := fun j => cell_of_row wr _ j _ 29 (0, 0) hwb
        clear hwb
        have t2 := frozen_rowE hv.wb_ 1
        have c3 := fun j => cell_of_row wr _ j _ 29 (0, 0) hv.rs
        have t3 := fun j => frozen_rowE hv.rs j
        have hwr : ¬ w.heap.size + 1 = wb := by have := hv.wbB; omega
        have hwr' : ¬ wb = w.heap.size + 1 := by have := hv.wbB; omega
        clear hv hb
        go_wp2
        have V := (unhide HV).setVb (.slice (some ⟨wc.heap.size, 0, none⟩) bs.length (bs.length + 4))
        have NB := (unhide HB).setCell (a := ⟨wb, 1, none⟩) o1 (.slice (some ⟨wc.heap.size, 0, none⟩) bs.length (bs.length + 4))
        have wbB := V.wbB
        have l0 := V.l0
        have l2 := V.l2
        have l3 := V.l3
        refine bodyPost_ret (v := .agg #[sN g0 lc, .slice (some ⟨wc.heap.size, 0, none⟩) bs.length (bs.length + 4), sN g2 lp, sN g3 ll]) (by simp [results, Tryz.results71, go_sem, c3, sN]) rfl ⟨g0, wc.heap.size, g2, g3, G, rfl, ?_, by omega, by omega, by omega, by omega, ?_, ?_, ?_, ?_⟩
        · exact (((V.bel.setCell (by simp) _).setCell (by simp) _).setCell (by simp) _).setCell (by simp) _
        · exact (((V.o0.setCell (by simp; omega) _).setCell (by simp; omega) _).setCell (by simp; omega) _).setCell (by simp; omega) _
        · exact (((V.o2.setCell (by simp; omega) _).setCell (by simp; omega) _).setCell (by simp; omega) _).setCell (by simp; omega) _
        · exact (((V.o3.setCell (by simp; omega) _).setCell (by simp; omega) _).setCell (by simp; omega) _).setCell (by simp; omega) _
        · have h := (((NB.setCell (a := ⟨w.heap.size + 1, 0, none⟩) (by simp; omega) (sN g0 lc)).setCell (a := ⟨w.heap.size + 1, 1, none⟩) (by simp; omega) (.slice (some ⟨wc.heap.size, 0, none⟩) bs.length (bs.length + 4))).setCell (a := ⟨w.heap.size + 1, 2, none⟩) (by simp; omega) (sN g2 lp)).setCell (a := ⟨w.heap.size + 1, 3, none⟩) (by simp; omega) (sN g3 ll)
          exact ⟨h.there, fun i hi hn => h.heads i (by omega) hn, fun i hi hn => h.far i (by omega) hn, fun i hi hn => h.own i (by omega) hn⟩
end Go.Proofs.YtfmbebofllgmoaaGreatDoor
namespace Go.Proofs.YtfmbebofllgmoaaGreatDoor
open Go.RowKit
attribute [local go_sem ↓] Go.wp_at_zero Go.wp_at_succ

set_option maxHeartbeats 2000000 in
theorem stays_any {w : World} {v0 v1 v2 v3 : Value} {lc lp ll : List Int} {bs : List (Value × List Int)} {P : Nat → Prop} (hP : ∀ q, P q → q < w.heap.size)
    (h0 : IntsIn w v0 lc P) (h1 : ValsIn w v1 (bs.map (·.1)) P) (h2 : IntsIn w v2 lp P) (h3 : IntsIn w v3 ll P) (hbs : ∀ b, b ∈ bs → IntsIn w b.1 b.2 P ∧ b.2.length ≤ 1000000000)
    (n0 : lc.length ≤ 1000000000) (n1 : bs.length ≤ 1000000000) (n2 : lp.length ≤ 1000000000) (n3 : ll.length ≤ 1000000000)
    {g0 gb g2 g3 : Nat} {G : Nat → Nat} (o0 : OwnN w g0 (lc.length + 4) lc) (o2 : OwnN w g2 (lp.length + 4) lp) (o3 : OwnN w g3 (ll.length + 4) ll) (ob : OwnBt w gb bs.length bs.length (bs.map (·.2)) G) :
    Calls Tryz.prog 73 #[.agg #[sN g0 lc, .slice (some ⟨gb, 0, none⟩) bs.length (bs.length + 4), sN g2 lp, sN g3 ll], .agg #[v0, v1, v2, v3]] w fun e w' => e = .returned (.bool true) ∧ Below w.heap.size w w' := by
  obtain ⟨ba, bc, rfl, hba⟩ := h1
  rw [List.length_map] at *
  obtain ⟨W0, hW⟩ : ∃ W0, W0 = (w.alloc (.cells #[sN g0 lc, .slice (some ⟨gb, 0, none⟩) bs.length (bs.length + 4), sN g2 lp, sN g3 ll] 29)).alloc (.cells #[v0, .slice ba bs.length bc, v2, v3] 29) := ⟨_, rfl⟩
  have hB0 : Below w.heap.size w W0 := by subst hW; exact bl2 _ _
  have bx : W0.heap[w.heap.size]? = some (.cells #[sN g0 lc, .slice (some ⟨gb, 0, none⟩) bs.length (bs.length + 4), sN g2 lp, sN g3 ll] 29) := by subst hW; exact (Below.heap_alloc _ _ _ (by simp)).trans (heap_alloc_new _ _)
  have by_ : W0.heap[w.heap.size + 1]? = some (.cells #[v0, .slice ba bs.length bc, v2, v3] 29) := by
    subst hW
    have h := heap_alloc_new (w.alloc (.cells #[sN g0 lc, .slice (some ⟨gb, 0, none⟩) bs.length (bs.length + 4), sN g2 lp, sN g3 ll] 29)) (.cells #[v0, .slice ba bs.length bc, v2, v3] 29)
    rw [show (w.alloc (.cells #[sN g0 lc, .slice (some ⟨gb, 0, none⟩) bs.length (bs.length + 4), sN g2 lp, sN g3 ll] 29)).heap.size = w.heap.size + 1 by simp] at h
    exact h
  have kp : ∀ {v l}, IntsIn w v l P → IntsIn W0 v l P := fun h => intsIn_kept h (fun q hq => hB0.block q (hP q hq)) (fun _ h => h)
  have i0 := kp h0
  have i2 := kp h2
  have i3 := kp h3
  have j0 := o0.below hB0 (o0.lt (by omega))
  have j2 := o2.below hB0 (o2.lt (by omega))
  have j3 := o3.below hB0 (o3.lt (by omega))
  have jb : OwnBt W0 gb bs.length bs.length (bs.map (·.2)) G := ob.below hB0 (World.block_lt_of_cell? w ⟨gb, 0, none⟩ (Option.isSome_iff_exists.1 (ob.there 0 (by omega)).1).choose_spec) (fun i hi hn => (ob.far i hi hn).2)
  have HBS := hide (fun b hb => show IntsIn W0 b.1 b.2 P ∧ b.2.length ≤ 1000000000 from ⟨kp (hbs b hb).1, (hbs b hb).2⟩)
  have HBA := hide (show (bs.map (·.1)) = [] ∨ ∃ q off, ba = some ⟨q, off, none⟩ ∧ P q ∧ ∀ i, i < bs.length → W0.cell? ⟨q, off + i, none⟩ = some ((bs.map (·.1)).getD i undef) from hba.imp id fun ⟨q, off, h1, h2, h3⟩ => ⟨q, off, h1, h2, fun i hi => (bcel hB0 _ _ (hP q h2)).trans (h3 i hi)⟩)
  have H0 := hide (sameNumbers_any i0 j0 n0)
  have H2 := hide (fun (X : World) (hd : Dr W0 X) => sameNumbers_any (intsIn_dr hd i2) (j2.dr hd) n2)
  have H3 := hide (fun (X : World) (hd : Dr W0 X) => sameNumbers_any (intsIn_dr hd i3) (j3.dr hd) n3)
  unfold sN at *
  have c0 := fun j => cell_of_row W0 _ j _ 29 (0, 0) bx
  have c1 := fun j => cell_of_row W0 _ j _ 29 (0, 0) by_
  have HW := hide hW
  have HB0 := hide hB0
  have JB := hide jb
  have BX := hide bx
  have BY := hide by_
  clear hW hB0 bx by_ kp i0 i2 i3 j0 j2 j3 jb o0 o2 o3 ob h0 h2 h3 hbs hba hP
  go_enter Tryz.func73, Tryz.ntmps73
  go_wp2_with fail
  rw [← unhide HW]
  go_at_call 110
  refine (unhide H0).mono ?_
  rintro e w1 ⟨rfl, d1⟩
  have c0' := fun j => (d1.cell ⟨w.heap.size, j, none⟩).trans (c0 j)
  have c1' := fun j => (d1.cell ⟨w.heap.size + 1, j, none⟩).trans (c1 j)
  clear c0 c1 H0
  go_wp2_with fail
  go_at_call 110
  refine (unhide H2 w1 d1).mono ?_
  rintro e w2 ⟨rfl, d2⟩
  have d12 := d1.trans d2
  have c0 := fun j => (d2.cell ⟨w.heap.size, j, none⟩).trans (c0' j)
  have c1 := fun j => (d2.cell ⟨w.heap.size + 1, j, none⟩).trans (c1' j)
  clear c0' c1' H2
  go_wp2_with fail
  go_at_call 110
  refine (unhide H3 w2 d12).mono ?_
  rintro e w3 ⟨rfl, d3⟩
  have d13 := d12.trans d3
  have c0' := fun j => (d3.cell ⟨w.heap.size, j, none⟩).trans (c0 j)
  have c1' := fun j => (d3.cell ⟨w.heap.size + 1, j, none⟩).trans (c1 j)
  clear c0 c1 H3
  go_wp2_with fail
  go_loopw [8, 9] (fun u8 u9 wr => u8 = .bool true ∧ ∃ k : Nat, k ≤ bs.length ∧ u9 = .int .i64 k ∧ Dr W0 wr) (fun _ i _ => bs.length - (intOf i).toNat)
  case atStart => exact ⟨by simp, 0, Nat.zero_le _, rfl, d13⟩
  case round =>
    obtain ⟨rfl, k, hk, rfl, hd⟩ := hrel
    have e0 := fun j => (hd.cell ⟨w.heap.size, j, none⟩).trans (cell_of_row W0 _ j _ 29 (0, 0) (unhide BX))
    have e1 := fun j => (hd.cell ⟨w.heap.size + 1, j, none⟩).trans (cell_of_row W0 _ j _ 29 (0, 0) (unhide BY))
    clear c0' c1'
    by_cases hlt : k < bs.length
    · rcases unhide HBA with hz | ⟨q, off, rfl, hq, hcell⟩
      · have : bs.length = 0 := by simpa using congrArg List.length hz
        omega
      have hmem : bs.getD k (.slice none 0 0, []) ∈ bs := by rw [List.getD_eq_getElem?_getD, List.getElem?_eq_getElem hlt]; exact List.getElem_mem _
      have hval : (bs.map (·.1)).getD k undef = (bs.getD k (.slice none 0 0, [])).1 := by rw [List.getD_eq_getElem?_getD, List.getElem?_map, List.getD_eq_getElem?_getD, List.getElem?_eq_getElem hlt]; rfl
      have hval2 : (bs.map (·.2)).getD k [] = (bs.getD k (.slice none 0 0, [])).2 := by rw [List.getD_eq_getElem?_getD, List.getElem?_map, List.getD_eq_getElem?_getD, List.getElem?_eq_getElem hlt]; rfl
      have g0 := (hd.cell ⟨q, off + k, none⟩).trans ((hcell k hlt).trans (by rw [hval]))
      have g1 := (hd.cell ⟨gb, k, none⟩).trans ((unhide JB).heads k hlt hlt)
      have gi := (unhide JB).own k hlt hlt
      obtain ⟨hi, hil⟩ := unhide HBS _ hmem
      rw [hval2] at g1 gi
      have H110 := hide (fun (X : World) (hx : Dr W0 X) => sameNumbers_any (intsIn_dr hx hi) (gi.dr hx) hil)
      clear hcell hval hval2 hmem gi hi hil
      generalize (bs.getD k (.slice none 0 0, [])).2 = l at *
      generalize (bs.getD k (.slice none 0 0, [])).1 = vk at *
      have hk0 : (0 : Int) ≤ (k : Int) := by omega
      have hk1 : (k : Int) < (bs.length : Int) := by omega
      have hk2 : (k : Int) < (bs.length : Int) + 4 := by omega
      go_wp2
      go_quiet ((go_at_call 110; exact Calls.quiet_of (unhide H110 _ (hd.more _))))
      go_wp2
      go_roundw
      case rel => exact ⟨by simp, k + 1, by omega, by go_num, hd.more _⟩
      case measure => simp [intOf]; omega
    · go_wp2
      go_ret
      exact ⟨by simp, (unhide HB0).trans (hd.below _)⟩
end Go.Proofs.YtfmbebofllgmoaaGreatDoor
namespace Go.Proofs.YtfmbebofllgmoaaGreatDoor
open Go.RowKit
attribute [local go_sem ↓] Go.wp_at_zero Go.wp_at_succ

/-- May it go off? -/
def cand (p : AT) (now tn : Int) : Bool := decide (p.1.2.1 ≤ now) && decide (p.2 < tn)
/-- Of the first k timers, the place of the one that goes off next; none: -1. -/
def dueI (A : List AT) (now tn : Int) : Nat → Int
  | 0 => -1
  | k + 1 => match A[k]? with
    | some p => if cand p now tn && (decide (dueI A now tn k < 0) || decide (p.1.2.1 < (A.getD (dueI A now tn k).toNat ((false, 0, 0, 0), 0)).1.2.1)) then (k : Int) else dueI A now tn k
    | none => dueI A now tn k
/-- What it is. -/
def DueOk (A : List AT) (now tn : Int) (k : Nat) (r : Int) : Prop :=
  (r = -1 ∧ ∀ j p, j < k → A[j]? = some p → cand p now tn = false) ∨
  ∃ m p, m < k ∧ r = (m : Int) ∧ A[m]? = some p ∧ cand p now tn = true ∧ ∀ j q, j < k → A[j]? = some q → cand q now tn = true → p.1.2.1 ≤ q.1.2.1 ∧ (j < m → p.1.2.1 < q.1.2.1)
theorem dueI_ok (A : List AT) (now tn : Int) : ∀ k, k ≤ A.length → DueOk A now tn k (dueI A now tn k)
  | 0, _ => .inl ⟨rfl, fun j p h => by omega⟩
  | k + 1, hk => by
    have ih := dueI_ok A now tn k (by omega)
    obtain ⟨p, hp⟩ : ∃ p, A[k]? = some p := ⟨_, List.getElem?_eq_getElem (by omega)⟩
    have hd : dueI A now tn (k + 1) = if cand p now tn && (decide (dueI A now tn k < 0) || decide (p.1.2.1 < (A.getD (dueI A now tn k).toNat ((false, 0, 0, 0), 0)).1.2.1)) then (k : Int) else dueI A now tn k := by
      simp only [dueI, hp]
    rw [hd]
    have last : ∀ j q, j < k + 1 → A[j]? = some q → (j < k ∧ A[j]? = some q) ∨ (j = k ∧ q = p) := fun j q hj hq => by
      by_cases e : j = k
      · subst e; rw [hp] at hq; exact .inr ⟨rfl, (Option.some.inj hq).symm⟩
      · exact .inl ⟨by omega, hq⟩
    by_cases hc : cand p now tn = true
    · rcases ih with ⟨h1, h2⟩ | ⟨m, q, hm, hr, hq, hcq, hall⟩
      · rw [if_pos (by simp [hc, h1])]
        refine .inr ⟨k, p, by omega, rfl, hp, hc, fun j q hj hq hcq => ?_⟩
        rcases last j q hj hq with ⟨h3, h4⟩ | ⟨h3, h4⟩
        · rw [h2 j q h3 h4] at hcq; cases hcq
        · subst h4; exact ⟨Int.le_refl _, fun h => by omega⟩
      · have hg : (A.getD (dueI A now tn k).toNat ((false, 0, 0, 0), 0)) = q := by
          rw [hr, List.getD_eq_getElem?_getD, show ((m : Int)).toNat = m by omega, hq]; rfl
        rw [hg]
        by_cases hl : p.1.2.1 < q.1.2.1
        · rw [if_pos (by simp [hc, hl])]
          refine .inr ⟨k, p, by omega, rfl, hp, hc, fun j u hj hu hcu => ?_⟩
          rcases last j u hj hu with ⟨h3, h4⟩ | ⟨h3, h4⟩
          · have := (hall j u h3 h4 hcu).1; exact ⟨by omega, fun _ => by omega⟩
          · subst h4; exact ⟨Int.le_refl _, fun h => by omega⟩
        · have hn : ¬ ((m : Int) < 0) := by omega
          rw [if_neg (by rw [hr]; simp [hl])]
          refine .inr ⟨m, q, by omega, hr, hq, hcq, fun j u hj hu hcu => ?_⟩
          rcases last j u hj hu with ⟨h3, h4⟩ | ⟨h3, h4⟩
          · exact hall j u h3 h4 hcu
          · subst h4; exact ⟨by omega, fun h => by omega⟩
    · have hc' : cand p now tn = false := by simpa using hc
      rw [if_neg (by simp [hc'])]
      rcases ih with ⟨h1, h2⟩ | ⟨m, q, hm, hr, hq, hcq, hall⟩
      · refine .inl ⟨h1, fun j u hj hu => ?_⟩
        rcases last j u hj hu with ⟨h3, h4⟩ | ⟨h3, h4⟩
        · exact h2 j u h3 h4
        · rw [h4]; exact hc'
      · refine .inr ⟨m, q, by omega, hr, hq, hcq, fun j u hj hu hcu => ?_⟩
        rcases last j u hj hu with ⟨h3, h4⟩ | ⟨h3, h4⟩
        · exact hall j u h3 h4 hcu
        · rw [h4, hc'] at hcu; cases hcu
section
variable {σ : Type} {SQ : (Nat → Value) → (Nat → Prop) → World → σ → Prop} {B : Nat} {S T : Nat → Prop} {w : World} {b : Nat} {pv : Nat → Value} {vt va : Value} {s : PS} {A : List AT} {tn sq : Int} {x : σ}

set_option maxHeartbeats 2000000 in
set_option maxRecDepth 20000 in
theorem dueQ_any (L : SQLaw SQ B) (h : LQ SQ B S w b pv vt va T s A tn sq x) (now : Int) (ha : s.armings ≤ 5000) :
    Calls Tryz.prog 142 #[.pointer (some ⟨b, 0, none⟩), .int .i64 now] w fun e w' => e = .returned (.int .i64 (dueI A now tn A.length)) ∧ Fr (fun _ => False) w w' (fun _ => False) := by
  obtain ⟨aa, ca, rfl⟩ := row_shape h.arow
  have hlen : A.length ≤ 5000 := by have := h.rel.len; omega
  have H := hide h
  clear h
  go_enter Tryz.func142, Tryz.ntmps142
  go_wp2
  go_loopw [5, 6] (fun u i wr => ∃ k : Nat, k ≤ A.length ∧ i = .int .i64 k ∧ u = .int .i64 (dueI A now tn k) ∧ Fr (fun _ => False) w wr (fun _ => False)) (fun _ i _ => A.length - (intOf i).toNat)
  case atStart => exact ⟨0, Nat.zero_le _, rfl, rfl, Fr.refl _ _⟩
  case round =>
    obtain ⟨k, hk, rfl, rfl, hf⟩ := hrel
    have hr := (unhide H).fr L hf
    have c16 := (hr.cell 16 (by omega)).trans (by rw [limg_armed])
    have c15 := (hr.cell 15 (by omega)).trans (by rw [limg_turn])
    have hb := hr.blt
    have HF := hide hf
    clear hf
    by_cases hlt : k < A.length
    · obtain ⟨p, hp⟩ : ∃ p, A[k]? = some p := ⟨_, List.getElem?_eq_getElem hlt⟩
      obtain ⟨g, cg, hv, q0, q1, q2⟩ := at_cells hr.arow hp
      injection hv with hv hv2 hv3
      subst hv
      clear hv2 hv3
      have hd : dueI A now tn (k + 1) = if cand p now tn && (decide (dueI A now tn k < 0) || decide (p.1.2.1 < (A.getD (dueI A now tn k).toNat ((false, 0, 0, 0), 0)).1.2.1)) then (k : Int) else dueI A now tn k := by
        simp only [dueI, hp]
      have hok := dueI_ok A now tn k (by omega)
      have hk0 : (0 : Int) ≤ (k : Int) := by omega
      have hk1 : (k : Int) < (A.length : Int) := by omega
      have hgl : g < wr.heap.size := World.block_lt_of_cell? _ _ q0
      have hgb : ¬ g = wr.heap.size := by omega
      have hgb' : ¬ b = wr.heap.size := by omega
      have HD := hide hd
      obtain ⟨t, pt⟩ := p
      obtain ⟨t0, t1, t2, t3⟩ := t
      dsimp only at q0 q1 q2 hd
      have fin : ∀ r, dueI A now tn (k + 1) = r → ∀ m, ∃ k' : Nat, k' ≤ A.length ∧ Value.int .i64 ((k : Int) + 1) = .int .i64 k' ∧ Value.int .i64 r = .int .i64 (dueI A now tn k') ∧ Fr (fun _ => False) w ((wr.alloc (.cells #[.int .i64 t3, .int .i64 t1, .int .i64 pt] 210)).drewN m) (fun _ => False) := fun r hr m =>
        ⟨k + 1, by omega, by go_num, by rw [hr], ((unhide HF).alloc _).drewN m⟩
      have FIN := hide fin
      clear hd hp fin
      by_cases e1 : t1 ≤ now
      · have d1 : decide (t1 ≤ now) = true := decide_eq_true e1
        by_cases e2 : pt < tn
        · have d2 : decide (pt < tn) = true := decide_eq_true e2
          have hcd : cand ((t0, t1, t2, t3), pt) now tn = true := by unfold cand; simp [e1, e2]
          rcases hok with ⟨hr1, _⟩ | ⟨m, q, hm, hrm, hq, _, _⟩
          · have d3 : decide (dueI A now tn k < 0) = true := by rw [hr1]; rfl
            have hres : dueI A now tn (k + 1) = (k : Int) := by rw [unhide HD, hcd, d3]; rfl
            have HRES := hide (unhide FIN _ hres)
            clear hr hres hcd hr1 FIN HD
            go_wp2
            go_quiet (fail)
            go_wp2
            go_roundw
            case rel => exact unhide HRES _
            case measure => simp [intOf]; omega
          · have d3 : decide (dueI A now tn k < 0) = false := by rw [hrm]; exact decide_eq_false (by omega)
            have n3 : (0 : Int) ≤ dueI A now tn k := by omega
            have n4 : dueI A now tn k < (A.length : Int) := by omega
            obtain ⟨g', cg', hv', u1, u2, u3⟩ := at_cells hr.arow hq
            injection hv' with hv' hv2 hv3
            injection hv' with hv'
            injection hv' with hv' hv4 hv5
            subst hv'
            clear hv2 hv3 u1 u3
            have hmn : (dueI A now tn k).toNat = m := by omega
            rw [← hmn] at u2
            have hgq : (A.getD (dueI A now tn k).toNat ((false, 0, 0, 0), 0)) = q := by
              rw [hmn, List.getD_eq_getElem?_getD, hq]; rfl
            by_cases e4 : t1 < q.1.2.1
            · have d4 : decide (t1 < q.1.2.1) = true := decide_eq_true e4
              have hres : dueI A now tn (k + 1) = (k : Int) := by rw [unhide HD, hcd, d3, hgq, d4]; rfl
              have HRES := hide (unhide FIN _ hres)
              clear hr hres hcd FIN HD hrm hq hgq hmn
              generalize dueI A now tn k = r at *
              go_wp2
              go_quiet (fail)
              go_wp2
              go_roundw
              case rel => exact unhide HRES _
              case measure => simp [intOf]; omega
            · have d4 : decide (t1 < q.1.2.1) = false := decide_eq_false e4
              have hres : dueI A now tn (k + 1) = dueI A now tn k := by rw [unhide HD, hcd, d3, hgq, d4]; rfl
              have HRES := hide (unhide FIN _ hres)
              clear hr hres hcd FIN HD hrm hq hgq hmn
              generalize dueI A now tn k = r at *
              go_wp2
              go_quiet (fail)
              go_wp2
              go_roundw
              case rel => exact unhide HRES _
              case measure => simp [intOf]; omega
        · have d2 : decide (pt < tn) = false := decide_eq_false e2
          have hres : dueI A now tn (k + 1) = dueI A now tn k := by
            rw [unhide HD]
            have : cand ((t0, t1, t2, t3), pt) now tn = false := by unfold cand; simp [e2]
            rw [this]; rfl
          have HRES := hide (unhide FIN _ hres)
          clear hr hres hok FIN HD
          generalize dueI A now tn k = r at *
          go_wp2
          go_quiet (fail)
          go_wp2
          go_roundw
          case rel => exact unhide HRES _
          case measure => simp [intOf]; omega
      · have d1 : decide (t1 ≤ now) = false := decide_eq_false e1
        have hres : dueI A now tn (k + 1) = dueI A now tn k := by
          rw [unhide HD]
          have : cand ((t0, t1, t2, t3), pt) now tn = false := by unfold cand; simp [e1]
          rw [this]; rfl
        have HRES := hide (unhide FIN _ hres)
        clear hr hres hok FIN HD
        generalize dueI A now tn k = r at *
        go_wp2
        go_quiet (fail)
        go_wp2
        go_roundw
        case rel => exact unhide HRES _
        case measure => simp [intOf]; omega
    · have hkl : k = A.length := by omega
      subst hkl
      have hk1 : ¬ (A.length : Int) < (A.length : Int) := by omega
      clear hr
      go_wp2
      go_ret
      exact ⟨rfl, unhide HF⟩
end
end Go.Proofs.YtfmbebofllgmoaaGreatDoor
namespace Go.Proofs.YtfmbebofllgmoaaGreatDoor
open Go.RowKit Go.Sort

section
variable {σ : Type} {ask : σ → Int → Int → Rep × σ}
/-- A timer that was armed before sq is as it was, or is no more. -/
def Olds (sq : Int) (s s' : PS) : Prop := s.armings ≤ s'.armings ∧ ∀ i, (s'.tim i).1 = true → (s'.tim i).2.2.1 ≤ sq → s'.tim i = s.tim i
theorem Olds.refl (sq : Int) (s : PS) : Olds sq s s := ⟨Int.le_refl _, fun _ _ _ => rfl⟩
theorem Olds.of {sq : Int} {s s' : PS} (ht : s'.tim = s.tim) (ha : s'.armings = s.armings) : Olds sq s s' := ⟨by omega, fun i _ _ => by rw [ht]⟩
theorem Olds.trans {sq : Int} {s s' s'' : PS} (h : Olds sq s s') (h' : Olds sq s' s'') : Olds sq s s'' :=
  ⟨Int.le_trans h.1 h'.1, fun i hi hs => by
    have e := h'.2 i hi hs
    rw [e] at hi hs ⊢
    exact h.2 i hi hs⟩
theorem ckS_tim (s : PS) (R : Rep) : (ckS s R).tim = s.tim ∧ (ckS s R).armings = s.armings := by
  unfold ckS; exact ite_ok (P := fun q : PS => q.tim = s.tim ∧ q.armings = s.armings) (ite_ok (P := fun q : PS => q.tim = s.tim ∧ q.armings = s.armings) ⟨rfl, rfl⟩ ⟨rfl, rfl⟩) ⟨rfl, rfl⟩
theorem lotS_tim (s : PS) (R : Rep) (i : Nat) : (lotS s R i).tim = s.tim ∧ (lotS s R i).armings = s.armings := by
  unfold lotS; exact ite_ok (P := fun q : PS => q.tim = s.tim ∧ q.armings = s.armings) ⟨rfl, rfl⟩ ⟨rfl, rfl⟩
theorem opM_old {sq : Int} (o : O3) (s : PS) (x : σ) (hs : sq ≤ s.armings) : Olds sq s (opM ask o s x).1 := by
  have hck := ckS_tim s (ask x 1 0).1
  have hlo := lotS_tim s (ask x 4 o.2.2).1 o.2.1.toNat
  have r := Olds.refl sq s
  have g : ∀ (P : PS × σ → Prop), (∀ q : PS × σ, Olds sq s q.1 → P q) → P (opM ask o s x) := by
    intro P hP
    unfold opM
    refine ite_ok (hP _ (.of rfl rfl)) (ite_ok (hP _ (.of rfl rfl)) (ite_ok (hP _ ?_) (ite_ok (hP _ ?_) (ite_ok (hP _ (.of rfl rfl)) (ite_ok (hP _ (.of rfl rfl)) (ite_ok (hP _ ?_) (ite_ok (hP _ (.of hlo.1 hlo.2)) (ite_ok (hP _ (.of rfl rfl)) (ite_ok (hP _ ?_) (hP _ (.of rfl rfl)))))))))))
    · refine ⟨by show s.armings ≤ s.armings + 1; omega, fun i hi hq => ?_⟩
      change (upd s.tim o.2.1.toNat _ i).2.2.1 ≤ sq at hq
      show upd s.tim o.2.1.toNat _ i = s.tim i
      unfold upd at hq ⊢
      by_cases e : i = o.2.1.toNat
      · rw [if_pos e] at hq
        change s.armings + 1 ≤ sq at hq
        omega
      · rw [if_neg e]
    · refine ⟨Int.le_refl _, fun i hi hq => ?_⟩
      change (upd s.tim o.2.1.toNat _ i).1 = true at hi
      show upd s.tim o.2.1.toNat _ i = s.tim i
      unfold upd at hi ⊢
      by_cases e : i = o.2.1.toNat
      · rw [if_pos e] at hi; cases hi
      · rw [if_neg e]
    · exact ite_ok (P := fun q : PS => Olds sq s q) (.of hck.1 hck.2) (.of hck.1 hck.2)
    · exact ite_ok (P := fun q : PS => Olds sq s q) (.of rfl rfl) r
  exact g (fun q => Olds sq s q.1) (fun _ h => h)
theorem hM_old {sq : Int} {f : Nat → O3} {n : Nat} : ∀ (k : Nat) (s : PS) (x : σ), sq ≤ s.armings → Olds sq s (hM ask f n k s x).1
  | 0, s, _, _ => Olds.refl sq s
  | k + 1, s, x, hs => by
    unfold hM
    refine ite_ok (P := fun q : PS × σ => Olds sq s q.1) (ite_ok (P := fun q : PS × σ => Olds sq s q.1) (.of rfl rfl) ?_) (Olds.refl sq s)
    have h1 := opM_old (ask := ask) (f s.next.toNat) { s with fuel := s.fuel - 1, next := s.next + 1 } x hs
    have h0 : Olds sq s { s with fuel := s.fuel - 1, next := s.next + 1 } := .of rfl rfl
    exact (h0.trans h1).trans (hM_old k _ _ (Int.le_trans hs h1.1))

/-- What is left of the timers that are due. -/
structure TL (s : PS) (l : List TM) (now sq : Int) : Prop where
  sort : l.Pairwise fun a b => ltOf cfT b a = false
  mem : ∀ t, t ∈ l → t.1 = true ∧ t.2.1 ≤ now ∧ t.2.2.1 ≤ sq
  all : ∀ i, (s.tim i).1 = true → (s.tim i).2.1 ≤ now → (s.tim i).2.2.1 ≤ sq → s.tim i ∈ l
theorem frM_none {g : Int → PS → σ → PS × σ} : ∀ (l : List TM) (s : PS) (x : σ), (∀ t, t ∈ l → s.tim t.2.2.2.toNat ≠ t) → frM g l s x = (s, x)
  | [], _, _, _ => rfl
  | t :: r, s, x, h => by
    unfold frM
    by_cases hf : s.fin ≠ 0
    · rw [if_pos hf]
    · rw [if_neg hf, if_neg (h t (List.mem_cons_self ..))]
      exact frM_none r s x (fun t ht => h t (List.mem_cons_of_mem _ ht))
theorem frM_stop {g : Int → PS → σ → PS × σ} (l : List TM) (s : PS) (x : σ) (h : s.fin ≠ 0) : frM g l s x = (s, x) := by
  cases l with
  | nil => rfl
  | cons t r => unfold frM; rw [if_pos h]
theorem frM_skip {g : Int → PS → σ → PS × σ} (l2 : List TM) : ∀ (l1 : List TM) (s : PS) (x : σ), s.fin = 0 → (∀ t, t ∈ l1 → s.tim t.2.2.2.toNat ≠ t) → frM g (l1 ++ l2) s x = frM g l2 s x
  | [], _, _, _, _ => rfl
  | t :: r, s, x, hf, h => by
    rw [List.cons_append]
    rw [frM, if_neg (by simp [hf]), if_neg (h t (List.mem_cons_self ..))]
    exact frM_skip l2 r s x hf (fun t ht => h t (List.mem_cons_of_mem _ ht))
theorem cand_iff {s : PS} {A : List AT} {tn sq now : Int} (h : ARel s A tn sq) {p : AT} (hp : p ∈ A) : cand p now tn = true ↔ p.1.2.1 ≤ now ∧ p.1.2.2.1 ≤ sq := by
  unfold cand
  have := (h.trn p hp).1
  simp only [Bool.and_eq_true, decide_eq_true_eq]
  rw [this]
/-- None is due: none is left. -/
theorem TL.none {g : Int → PS → σ → PS × σ} {s : PS} {A : List AT} {l : List TM} {tn sq now : Int} (h : TL s l now sq) (hr : ARel s A tn sq) (hd : ∀ j p, j < A.length → A[j]? = some p → cand p now tn = false) (x : σ) : frM g l s x = (s, x) :=
  frM_none l s x (fun t ht e => by
    obtain ⟨h1, h2, h3⟩ := h.mem t ht
    rw [← e] at h1 h2 h3
    obtain ⟨_, _, u, hu⟩ := hr.all _ h1
    obtain ⟨j, hj⟩ := List.getElem?_of_mem hu
    have hc := hd j _ (List.getElem?_eq_some_iff.1 hj).1 hj
    rw [(cand_iff hr hu).2 ⟨h2, h3⟩] at hc
    cases hc)
/-- One is due: it is the next that goes off. -/
theorem TL.next {g : Int → PS → σ → PS × σ} {s : PS} {A : List AT} {l : List TM} {tn sq now : Int} (h : TL s l now sq) (hr : ARel s A tn sq) {m : Nat} {p : AT} (hm : A[m]? = some p) (hc : cand p now tn = true)
    (hall : ∀ j q, j < A.length → A[j]? = some q → cand q now tn = true → p.1.2.1 ≤ q.1.2.1 ∧ (j < m → p.1.2.1 < q.1.2.1)) (hf : s.fin = 0) (x : σ) :
    ∃ l2, l2.length < l.length ∧ frM g l s x = frM g l2 (g p.1.2.2.2 (offS s p.1.2.2.2) x).1 (g p.1.2.2.2 (offS s p.1.2.2.2) x).2 ∧ ∀ s2, Olds sq (offS s p.1.2.2.2) s2 → TL s2 l2 now sq := by
  have hp : p ∈ A := List.mem_of_getElem? hm
  obtain ⟨a1, a2, a3, a4⟩ := hr.mem p hp
  obtain ⟨c1, c2⟩ := (cand_iff hr hp).1 hc
  have hin : p.1 ∈ l := by
    have := h.all p.1.2.2.2.toNat (by rw [a4]; exact a1) (by rw [a4]; exact c1) (by rw [a4]; exact c2)
    rwa [a4] at this
  obtain ⟨l1, l2, rfl, hno⟩ := List.eq_append_cons_of_mem hin
  have hbad : ∀ t, t ∈ l1 → s.tim t.2.2.2.toNat ≠ t := fun t ht e => by
    obtain ⟨b1, b2, b3⟩ := h.mem t (List.mem_append_left _ ht)
    have b1' := b1
    rw [← e] at b1'
    obtain ⟨_, _, u, hu⟩ := hr.all _ b1'
    rw [e] at hu
    obtain ⟨j, hj⟩ := List.getElem?_of_mem hu
    have hjl := (List.getElem?_eq_some_iff.1 hj).1
    have hml := (List.getElem?_eq_some_iff.1 hm).1
    obtain ⟨d1, d2⟩ := hall j _ hjl hj ((cand_iff hr hu).2 ⟨b2, b3⟩)
    have hs := (List.pairwise_append.1 h.sort).2.2 t ht p.1 (List.mem_cons_self ..)
    have hs' : ¬ (p.1.2.1 < t.2.1 ∨ (p.1.2.1 = t.2.1 ∧ p.1.2.2.1 < t.2.2.1)) := fun hh => by
      rw [(ltT p.1 t).2 hh] at hs; cases hs
    have hne : t ≠ p.1 := fun e => hno (e ▸ ht)
    have hseq := List.pairwise_iff_getElem.1 hr.seq
    have ej : A[j] = (t, u) := (List.getElem?_eq_some_iff.1 hj).2
    have em : A[m] = p := (List.getElem?_eq_some_iff.1 hm).2
    rcases Nat.lt_trichotomy j m with hlt | heq | hgt
    · have := d2 hlt
      change p.1.2.1 < t.2.1 at this
      exact hs' (.inl this)
    · subst heq
      rw [ej] at em
      exact hne (by rw [← em])
    · have := hseq m j hml hjl hgt
      rw [ej, em] at this
      change p.1.2.2.1 < t.2.2.1 at this
      change p.1.2.1 ≤ t.2.1 at d1
      exact hs' (by omega)
  refine ⟨l2, by simp; omega, ?_, fun s2 ho => ?_⟩
  · rw [frM_skip (p.1 :: l2) l1 s x hf hbad, frM, if_neg (by simp [hf]), if_pos a4]
  · have hsub : ∀ t, t ∈ l2 → t ∈ l1 ++ p.1 :: l2 := fun t ht => List.mem_append_right _ (List.mem_cons_of_mem _ ht)
    refine ⟨(List.pairwise_cons.1 (List.pairwise_append.1 h.sort).2.1).2, fun t ht => h.mem t (hsub t ht), fun i i1 i2 i3 => ?_⟩
    have e1 := ho.2 i i1 i3
    have hne : i ≠ p.1.2.2.2.toNat := fun e => by
      rw [e1] at i1
      change (upd s.tim p.1.2.2.2.toNat _ i).1 = true at i1
      unfold upd at i1
      rw [if_pos e] at i1
      cases i1
    have e2 : (offS s p.1.2.2.2).tim i = s.tim i := by
      show upd s.tim p.1.2.2.2.toNat _ i = s.tim i
      unfold upd
      rw [if_neg hne]
    rw [e1, e2] at i1 i2 i3 ⊢
    have hi := h.all i i1 i2 i3
    obtain ⟨_, b2, _⟩ := hr.all i i1
    rcases List.mem_append.1 hi with h1 | h1
    · exact absurd (by rw [b2]; rfl) (hbad _ h1)
    · rcases List.mem_cons.1 h1 with h2 | h2
      · exact absurd (by rw [← h2, b2]; rfl) hne
      · exact h2
/-- At the turn's beginning. -/
theorem TL.start {s : PS} {A : List AT} {tn sq : Int} (hr : ARel s A tn sq) (hs : s.armings ≤ sq) : TL s (dueS s) s.clock sq := by
  have hp := dueS_perm s
  have hseq : ∀ i, (s.tim i).1 = true → (s.tim i).2.2.1 ≤ sq := fun i hi => by
    obtain ⟨_, _, u, hu⟩ := hr.all i hi
    exact Int.le_trans (hr.top _ hu) hs
  refine ⟨dueS_sorted s, fun t ht => ?_, fun i h1 h2 _ => ?_⟩
  · have := hp.mem_iff.1 ht
    unfold dueK at this
    rw [List.mem_filter, List.mem_map] at this
    obtain ⟨⟨i, _, rfl⟩, h2⟩ := this
    simp only [Bool.and_eq_true, decide_eq_true_eq] at h2
    exact ⟨h2.1, h2.2, hseq i h2.1⟩
  · refine hp.mem_iff.2 ?_
    unfold dueK
    rw [List.mem_filter, List.mem_map]
    exact ⟨⟨i, List.mem_range.2 (hr.all i h1).1, rfl⟩, by simp [h1, h2]⟩
end
end Go.Proofs.YtfmbebofllgmoaaGreatDoor
