/-
  PROVED HERE: the recorder as Record makes it. Record runs a program by a world and writes what it heard. a run that was recorded is had again by the model of a replay; of the first inputs comes the beginning; other handlers do what a world makes of them that has just what was heard. a replay's source keeps its word (HearSpec over repAsk); New makes it of inputs; what is read of a log may be heard. Read gives what the model (readL) says, in new memory, and leaves the rest as it was. how long a run's trace is at the most; a struct's equality with itself. the laws' comparisons of lists of numbers and of inputs that are the same; lists that read as their owner wrote them. append to a list of one's own, both the list and what comes of it may be read behind it. the Book of all lists that came out: looks answers true where each reads as its owner wrote it. looks answers true of a Book whose lists read as their owner wrote them. the Book, its lists in blocks of their own: what it keeps where other blocks turn. append to a list of one's own, with room or without: what has turned. the Book where one more list is kept. the document's cancel and arm. the document's arm. the document's clock, over a source that keeps its word. the reference's modulo and files. the document's world answers as the recorder's model (recAsk) says. rerunlaw.numbers, sameNumbers, sameEvents: a list of numbers is copied with four behind it, and held against its original. rerunlaw.world copies a world, and old memory stays.
-/
import Derived.Test.YtfmbebofllgmoaaGreatDoorProg
import Derived.WalkKit
import Derived.WalkSpells
import Derived.WalkLawsBesides
import Derived.Deep.QuietTactic
import Derived.BigQuiet
import Derived.Deep.RegionHeld3
import Derived.Deep.AppendLies
import Derived.Laws.EntriesVeiled
import Derived.Deep.DrawnRows
import Derived.BigRegion
import Derived.Deep.LoopGhost
import Derived.Deep.MidRow
import Derived.Shelf.SlSortCmp.SmallK
import Derived.Shelf.SlicesG.Cmp
import Derived.Shelf.Small.Bits
import Derived.Deep.RegionLaw
import Derived.Lib.SliceRun
import Derived.Laws.StructEq
import Derived.Laws.BytesString
import Derived.ArgAppend
import Derived.Deep.DeepCutAuto
import Derived.Conc.LoneCalls
import Derived.Calls
import Derived.Tactics
import Derived.KernelRfl
import Derived.Laws.Rows
import Derived.Lib.SlBytesConst
import Derived.Laws.BitsAllLaws
import Derived.RangeFuncOwn
import Derived.Laws.IdiomStrings
import Derived.RangeFuncNested
import Derived.RangeFuncBound
import Derived.RangeFuncCalls
import Derived.RangeFuncLeaves
import Derived.Shelf.RegionOpen
import Derived.OwnWalkIn
import Derived.TacticsInMore
import Derived.Maps.OwnIn
import Derived.Maps.AppendAt
import Derived.LoopNIn
import Derived.LoopIn
import Derived.ChangeKeysEq
import Derived.Deep.DeepAppendRoom
import Derived.Test.YtfmbebofllgmoaaGreatDoorSrecordsc
namespace Go.Proofs.YtfmbebofllgmoaaGreatDoor
open Go.RowKit

theorem six (h : Array Obj) (a b c d e f : Obj) : ((((((h.push a).push b).push c).push d).push e).push f)[h.size + 1]? = some b ∧ ((((((h.push a).push b).push c).push d).push e).push f)[h.size + 2]? = some c ∧ ((((((h.push a).push b).push c).push d).push e).push f)[h.size + 3]? = some d ∧
    ((((((h.push a).push b).push c).push d).push e).push f)[h.size + 4]? = some e ∧ ((((((h.push a).push b).push c).push d).push e).push f)[h.size + 5]? = some f := by
  refine ⟨?_, ?_, ?_, ?_, ?_⟩
  · rw [Array.getElem?_push, if_neg (by simp), Array.getElem?_push, if_neg (by simp), Array.getElem?_push, if_neg (by simp), Array.getElem?_push, if_neg (by simp), Array.getElem?_push, if_pos (by simp)]
  · rw [Array.getElem?_push, if_neg (by simp), Array.getElem?_push, if_neg (by simp), Array.getElem?_push, if_neg (by simp), Array.getElem?_push, if_pos (by simp)]
  · rw [Array.getElem?_push, if_neg (by simp), Array.getElem?_push, if_neg (by simp), Array.getElem?_push, if_pos (by simp)]
  · rw [Array.getElem?_push, if_neg (by simp), Array.getElem?_push, if_pos (by simp)]
  · rw [Array.getElem?_push, if_pos (by simp)]

theorem newW_facts (w : World) (v0 v1 v2 v3 : Value) (l0 l1 l2 l3 : List Value) : (newW w v0 v1 v2 v3 l0 l1 l2 l3).heap.size = w.heap.size + 6 ∧ Fr (fun _ => False) w (newW w v0 v1 v2 v3 l0 l1 l2 l3) (fun _ => False) ∧
    (newW w v0 v1 v2 v3 l0 l1 l2 l3).heap[w.heap.size + 1]? = some (chanO l0) ∧ (newW w v0 v1 v2 v3 l0 l1 l2 l3).heap[w.heap.size + 2]? = some (chanO l1) ∧ (newW w v0 v1 v2 v3 l0 l1 l2 l3).heap[w.heap.size + 3]? = some (chanO l2) ∧ (newW w v0 v1 v2 v3 l0 l1 l2 l3).heap[w.heap.size + 4]? = some (chanO l3) ∧
    (newW w v0 v1 v2 v3 l0 l1 l2 l3).heap[w.heap.size + 5]? = some (.cells #[.chan (some (w.heap.size + 1)), .chan (some (w.heap.size + 2)), .chan (some (w.heap.size + 3)), .chan (some (w.heap.size + 4))] 147) := by
  have e : (newW w v0 v1 v2 v3 l0 l1 l2 l3).heap = (((((w.heap.push (.cells #[v0, v1, v2, v3] 29)).push (chanO l0)).push (chanO l1)).push (chanO l2)).push (chanO l3)).push (.cells #[.chan (some (w.heap.size + 1)), .chan (some (w.heap.size + 2)), .chan (some (w.heap.size + 3)), .chan (some (w.heap.size + 4))] 147) := rfl
  refine ⟨by rw [e]; simp, (((((((Fr.refl _ w).alloc _).drew).alloc _).alloc _).alloc _).alloc _).alloc _, ?_⟩
  rw [e]
  exact six w.heap _ _ _ _ _ _

/-- The blocks of a recorder that was made behind n blocks; the lists that it was lent. -/
def recT (n : Nat) (L : Nat → Prop) (q : Nat) : Prop := (n + 1 ≤ q ∧ q ≤ n + 8) ∨ L q

theorem rec_start {w w2 : World} {v0 v1 v2 v3 v : Value} {lc lp ll : List Int} {bs : List (Value × List Int)} {L : Nat → Prop}
    (hL : ∀ q, L q → q < w.heap.size) (hbs : ∀ p, p ∈ bs → IntsIn w p.1 p.2 L ∧ p.2.length ≤ 100000000) (hroom : lc.length + bs.length + lp.length + ll.length ≤ 17000000)
    {W1 : World} (hW1 : W1 = newW w v0 v1 v2 v3 (lc.map (.int .i64)) (bs.map (·.1)) (lp.map (.int .i64)) (ll.map (.int .i64)))
    (hlog : LogAt w2 (W1.heap.size + 1) W1.heap.size v headS) (hf : Fr (fun _ => False) W1 w2 (fun _ => False)) (hv : ∀ k, own v k → k = W1.heap.size) (hz : w2.heap.size = W1.heap.size + 2) :
    RecA (w.heap.size + 8) L (fun q => w.heap[q]?) (recT w.heap.size L) (w2.alloc (.cells #[.pointer (some ⟨w.heap.size + 5, 0, none⟩), .pointer (some ⟨w.heap.size + 7, 0, none⟩)] 95)) ⟨lc, bs, lp, ll, headS⟩ ∧
      Fr (fun _ => False) w (w2.alloc (.cells #[.pointer (some ⟨w.heap.size + 5, 0, none⟩), .pointer (some ⟨w.heap.size + 7, 0, none⟩)] 95)) (fun _ => False) ∧
      (w2.alloc (.cells #[.pointer (some ⟨w.heap.size + 5, 0, none⟩), .pointer (some ⟨w.heap.size + 7, 0, none⟩)] 95)).heap.size = w.heap.size + 9 ∧ w2.heap.size = w.heap.size + 8 := by
  obtain ⟨f0, f1, f2, f3, f4, f5, f6⟩ := newW_facts w v0 v1 v2 v3 (lc.map (.int .i64)) (bs.map (·.1)) (lp.map (.int .i64)) (ll.map (.int .i64))
  rw [← hW1] at f0 f1 f2 f3 f4 f5 f6
  rw [f0] at hlog hv hz
  have hz3 : (w2.alloc (.cells #[.pointer (some ⟨w.heap.size + 5, 0, none⟩), .pointer (some ⟨w.heap.size + 7, 0, none⟩)] 95)).heap.size = w.heap.size + 9 := by simp; omega
  have same : ∀ q, q < w.heap.size + 6 → (w2.alloc (.cells #[.pointer (some ⟨w.heap.size + 5, 0, none⟩), .pointer (some ⟨w.heap.size + 7, 0, none⟩)] 95)).heap[q]? = W1.heap[q]? := fun q hq => (Below.heap_alloc _ _ _ (by omega)).trans (hf.same q (by omega) (fun h => h))
  have same2 : ∀ q, q < w2.heap.size → (w2.alloc (.cells #[.pointer (some ⟨w.heap.size + 5, 0, none⟩), .pointer (some ⟨w.heap.size + 7, 0, none⟩)] 95)).heap[q]? = w2.heap[q]? := fun q hq => Below.heap_alloc _ _ _ hq
  have hnew := heap_alloc_new w2 (.cells #[.pointer (some ⟨w.heap.size + 5, 0, none⟩), .pointer (some ⟨w.heap.size + 7, 0, none⟩)] 95)
  rw [show w2.heap.size = w.heap.size + 8 by omega] at hnew
  have hfr : Fr (fun _ => False) w (w2.alloc (.cells #[.pointer (some ⟨w.heap.size + 5, 0, none⟩), .pointer (some ⟨w.heap.size + 7, 0, none⟩)] 95)) (fun _ => False) := (f1.trans hf).alloc _
  have hsrc := (same (w.heap.size + 5) (by omega)).trans f6
  refine ⟨⟨w.heap.size + 5, w.heap.size + 7, w.heap.size + 1, w.heap.size + 2, w.heap.size + 3, w.heap.size + 4, w.heap.size + 6, v, ?_⟩, hfr, hz3, by omega⟩
  refine ⟨cell_of_row _ _ 0 _ 95 (0, 0) hnew, cell_of_row _ _ 1 _ 95 (0, 0) hnew, cell_of_row _ _ 0 _ 147 (0, 0) hsrc, cell_of_row _ _ 1 _ 147 (0, 0) hsrc, cell_of_row _ _ 2 _ 147 (0, 0) hsrc, cell_of_row _ _ 3 _ 147 (0, 0) hsrc,
    ⟨_, _, _, (same _ (by omega)).trans f2⟩, ⟨_, _, _, (same _ (by omega)).trans f3⟩, ⟨_, _, _, (same _ (by omega)).trans f4⟩, ⟨_, _, _, (same _ (by omega)).trans f5⟩, ?_, by omega, ?_, ?_, ?_, ?_, ?_, ?_, ?_⟩
  · refine hlog.block (fun q hq => same2 q ?_) (by rw [hz3]; omega)
    rcases hq with rfl | hq
    · omega
    · have := hv q hq; omega
  · simp
  · intro q hq
    have hq' : q = w.heap.size + 8 ∨ q = w.heap.size + 5 ∨ q = w.heap.size + 7 ∨ q = w.heap.size + 1 ∨ q = w.heap.size + 2 ∨ q = w.heap.size + 3 ∨ q = w.heap.size + 4 := by simpa using hq
    refine ⟨.inl (by omega), fun h => by have := hL q h; omega, fun h => by have := hv q h; omega⟩
  · intro q hq
    have := hv q hq
    exact ⟨.inl (by omega), fun h => by have := hL q h; omega⟩
  · exact fun q hq => .inr hq
  · exact fun q hq => hfr.same q (hL q hq) (fun h => h)
  · exact fun p hp => ⟨(hbs p hp).1.block (fun q hq => hfr.same q (hL q hq) (fun h => h)), (hbs p hp).2⟩
  · have hs3 : headS.size = 3 := rfl
    show headS.size + 40 * (lc.length + bs.length + lp.length + ll.length) ≤ 700000000
    omega
end Go.Proofs.YtfmbebofllgmoaaGreatDoor
namespace Go.Proofs.YtfmbebofllgmoaaGreatDoor
open Go.RowKit
attribute [local go_sem ↓] Go.wp_at_zero Go.wp_at_succ

/-- What a run by a world ends with. -/
def recM (p : Pg) (f : Int) (lc : List Int) (bs : List (Value × List Int)) (lp ll : List Int) : PS × RS := runM recAsk p (lc.length + 1) f ⟨lc, bs, lp, ll, headS⟩
/-- The log of a run. -/
def recLog (r : PS × RS) : ByteArray := r.2.log ++ frameS (bodyS 5 0 r.1.fin.toNat)
def finV (s : PS) : Value := .agg #[.int .i64 s.fin, .int .i64 (s.reg 0), .int .i64 (s.reg 1), .int .i64 (s.reg 2), .int .i64 (s.reg 3), .int .i64 s.clock, .int .i64 s.heard]
/-- Record's answer. -/
def RecPost (w : World) (p : Pg) (f : Int) (lc : List Int) (bs : List (Value × List Int)) (lp ll : List Int) (e : Ending) (w' : World) : Prop :=
  Fr (fun _ => False) w w' (fun _ => False) ∧ ∃ x, Ans p.tn p.fn (1 + p.tn + p.fn) (allL p.sn p.tn p.tl p.fl) (allF p.tn p.sf p.tf p.ff) x ∧
    ((x ≠ 0 ∧ e = .returned (.tuple #[.string ⟨#[]⟩, .slice none 0 0, .agg #[.int .i64 0, .int .i64 0, .int .i64 0, .int .i64 0, .int .i64 0, .int .i64 0, .int .i64 0], .int .i64 x])) ∨
     (x = 0 ∧ ∃ vt, e = .returned (.tuple #[.string (recLog (recM p f lc bs lp ll)), vt, finV (recM p f lc bs lp ll).1, .int .i64 0]) ∧ w'.ownsRow w.heap.size 72 3 vt (recM p f lc bs lp ll).1.trace.length (flatE (recM p f lc bs lp ll).1.trace)))

theorem Fr.of_below {w w' : World} (h : Below w.heap.size w w') : Fr (fun _ => False) w w' (fun _ => False) := ⟨h.os, h.tape, h.output, h.size, fun k hk _ => h.block k hk, fun _ _ h => h⟩

/-- Seven cells are written over. -/
theorem out7 {W : World} {g : Nat} {a0 a1 a2 a3 a4 a5 a6 : Value} (h : W.heap[g]? = some (.cells #[a0, a1, a2, a3, a4, a5, a6] 37)) (x0 x1 x2 x3 x4 x5 x6 : Value) :
    (((((((W.setCell ⟨g, 0, none⟩ x0).setCell ⟨g, 1, none⟩ x1).setCell ⟨g, 2, none⟩ x2).setCell ⟨g, 3, none⟩ x3).setCell ⟨g, 4, none⟩ x4).setCell ⟨g, 5, none⟩ x5).setCell ⟨g, 6, none⟩ x6).heap[g]? = some (.cells #[x0, x1, x2, x3, x4, x5, x6] 37) := by
  have st : ∀ (V : World) (c : Array Value) (i : Nat) (x : Value), V.heap[g]? = some (.cells c 37) → (V.setCell ⟨g, i, none⟩ x).heap[g]? = some (.cells (c.setIfInBounds i x) 37) := by
    intro V c i x hV
    have h0 := setRow_heap V g c (c.setIfInBounds i x) 37 (0, 0) hV
    rw [← setCell_eq_setRow V g i c 37 (0, 0) x hV] at h0
    exact h0
  have h7 := st _ _ 6 x6 (st _ _ 5 x5 (st _ _ 4 x4 (st _ _ 3 x3 (st _ _ 2 x2 (st _ _ 1 x1 (st _ _ 0 x0 h))))))
  simp only [List.setIfInBounds_toArray, List.set] at h7
  exact h7
theorem out7_fr {S S' : Nat → Prop} {w W : World} (h : Fr S w W S') {g : Nat} (hg : S g ∨ w.heap.size ≤ g) (x0 x1 x2 x3 x4 x5 x6 : Value) :
    Fr S w (((((((W.setCell ⟨g, 0, none⟩ x0).setCell ⟨g, 1, none⟩ x1).setCell ⟨g, 2, none⟩ x2).setCell ⟨g, 3, none⟩ x3).setCell ⟨g, 4, none⟩ x4).setCell ⟨g, 5, none⟩ x5).setCell ⟨g, 6, none⟩ x6) S' :=
  ((((((h.setCell _ _ hg).setCell _ _ hg).setCell _ _ hg).setCell _ _ hg).setCell _ _ hg).setCell _ _ hg).setCell _ _ hg
theorem three (h : Array Obj) (a b c : Obj) : (((h.push a).push b).push c)[h.size]? = some a ∧ (((h.push a).push b).push c)[h.size + 1]? = some b ∧ (((h.push a).push b).push c)[h.size + 2]? = some c := by
  refine ⟨?_, ?_, ?_⟩
  · rw [Array.getElem?_push, if_neg (by simp; omega), Array.getElem?_push, if_neg (by simp), Array.getElem?_push, if_pos (by simp)]
  · rw [Array.getElem?_push, if_neg (by simp), Array.getElem?_push, if_pos (by simp)]
  · rw [Array.getElem?_push, if_pos (by simp)]

theorem ns' {n1 k : Nat} {L : Nat → Prop} (hl : ¬ L k) (h : recT n1 L k) (hk : k < n1) : False := h.elim (fun h => by omega) hl
/-- What is left of memory. -/
theorem rec_end {n1 rb sb lb c0 c1 c2 c3 B B' b : Nat} {v' v6 vt : Value} {pv : Nat → Value} {L S' T' : Nat → Prop} {w w1 w3 w4 w6 : World} {s' : PS} {x' : RS} {o : Obj}
    (hri : RI (RecA rb L (fun q => w1.heap[q]?)) B S' w4 b pv vt T' s' x') (hrc : RecAt rb sb lb c0 c1 c2 c3 B' v' L (fun q => w1.heap[q]?) T' w4 x') (hfr : Fr (recT n1 L) w3 w4 S') (hn1 : w.heap.size + 3 ≤ n1)
    (f1 : Fr (fun _ => False) w w1 (fun _ => False)) (f3 : Fr (fun _ => False) w1 w3 (fun _ => False)) (hz3 : n1 ≤ w3.heap.size) (f6 : Fr (lgS lb v') ((w4.alloc o).drew) w6 (lgS lb v6)) :
    Fr (fun _ => False) w w6 (fun _ => False) ∧ w6.ownsRow w.heap.size 72 3 vt s'.trace.length (flatE s'.trace) ∧ (∀ q, own vt q → q ≠ w.heap.size + 1 + 1) := by
  have hlgT : ∀ q, lgS lb v' q → T' q ∧ ¬ L q := fun q h => h.elim (fun h => by rw [h]; exact ⟨(hrc.inT lb (by simp)).1, (hrc.inT lb (by simp)).2.1⟩) (fun h => hrc.vT q h)
  have hS : ∀ q, q < n1 → S' q → L q := fun q h1 h2 => (hfr.old q (by omega) h2).elim (fun h => by omega) id
  have h46 : Fr (lgS lb v') w4 w6 (lgS lb v6) := Fr.unalloc (o := o) ⟨f6.os, f6.tape, f6.output, f6.size, f6.same, f6.old⟩
  have f13 := f1.trans f3
  have hvt : ∀ q, own vt q → w.heap.size ≤ q ∧ q ≠ w.heap.size + 1 + 1 ∧ ¬ lgS lb v' q ∧ q < w4.heap.size := by
    intro q hq
    obtain ⟨h1, _, h3⟩ := hri.inV q hq
    have hnl : ¬ L q := fun h => h3 (hrc.lT q h)
    have hge : n1 ≤ q := by
      rcases Nat.lt_or_ge q n1 with h | h
      · exact absurd (hS q h h1) hnl
      · exact h
    exact ⟨by omega, by omega, fun h => h3 (hlgT q h).1, (hri.bound q h1).2⟩
  refine ⟨⟨h46.os.trans (hfr.os.trans f13.os), h46.tape.trans (hfr.tape.trans f13.tape), h46.output.trans (hfr.output.trans f13.output), Nat.le_trans f13.size (Nat.le_trans hfr.size h46.size), ?_, fun _ _ h => h⟩, ?_, fun q hq => (hvt q hq).2.1⟩
  · intro k hk _
    have hk3 : k < w3.heap.size := Nat.lt_of_lt_of_le hk f13.size
    have hk4 : k < w4.heap.size := Nat.lt_of_lt_of_le hk3 hfr.size
    by_cases hl : L k
    · exact (h46.same k hk4 (fun h => (hlgT k h).2 hl)).trans ((hrc.lent k hl).trans (f1.same k hk (fun h => h)))
    · have ns : ¬ S' k := fun h => hl (hS k (by omega) h)
      exact (h46.same k hk4 (fun h => ns (hri.inT k (hlgT k h).1).1)).trans ((hfr.same k hk3 (fun h => ns' hl h (by omega))).trans (f13.same k hk (fun h => h)))
  · have h5 := ownsRow_of_block (w' := w6) hri.row (fun q hq => h46.same q (hvt q hq).2.2.2 (hvt q hq).2.2.1)
    refine ⟨h5.1, ?_⟩
    rcases h5.2 with h | ⟨g, cap, cur, e1, e2, r⟩
    · exact .inl h
    · exact .inr ⟨g, cap, cur, e1, (hvt g (by rw [e1]; rfl)).1, r⟩

set_option maxHeartbeats 4000000 in
set_option maxRecDepth 100000 in
theorem record_any {w w0 : World} (hbel : Below w0.heap.size w0 w) (htab : TabIn w) {p1 p2 p3 : Value} {p : Pg} (hv : PgAt w0 (pvOf p1 p2 p3 undef) p) (f : Int)
    {v0 v1 v2 v3 : Value} {lc lp ll : List Int} {bs : List (Value × List Int)} {L P : Nat → Prop} (hP : ∀ q, P q → q < w.heap.size) (hL : ∀ q, L q → w0.heap.size ≤ q ∧ q < w.heap.size)
    (h0 : IntsIn w v0 lc P) (h1 : ValsIn w v1 (bs.map (·.1)) P) (h2 : IntsIn w v2 lp P) (h3 : IntsIn w v3 ll P) (hbs : ∀ b, b ∈ bs → IntsIn w b.1 b.2 L ∧ b.2.length ≤ 100000000)
    (n0 : lc.length ≤ 4000000) (n1 : bs.length ≤ 4000000) (n2 : lp.length ≤ 4000000) (n3 : ll.length ≤ 4000000) :
    Calls Tryz.prog 22 #[.agg #[p1, p2, p3], .agg #[v0, v1, v2, v3], .int .i64 f] w (RecPost w p f lc bs lp ll) := by
  have hB3 : Below w.heap.size w (((w.alloc (.cells #[p1, p2, p3] 33)).alloc (.cells #[v0, v1, v2, v3] 29)).alloc (.cells #[.int .i64 0, .int .i64 0, .int .i64 0, .int .i64 0, .int .i64 0, .int .i64 0, .int .i64 0] 37)) := bl3 _ _ _
  have hw0 : w0.heap.size ≤ w.heap.size := hbel.size
  have hck := pcheck_any p1 p2 p3 p.sn p.tn p.fn p.sf p.tl p.fl p.tf p.ff _ (tabIn_below hB3 (tabIn_lt htab) htab) (opsIn_below hB3 (opsIn_below hbel hv.s)) (handsIn_below hB3 (handsIn_below hbel hv.t)) (handsIn_below hB3 (handsIn_below hbel hv.f))
  have HCK := hide hck
  clear hck
  generalize hR : RecPost w p f lc bs lp ll = R
  have HR := hide hR
  clear hR
  go_enter Tryz.func22, Tryz.ntmps22
  go_wp2_with fail
  go_at_call 27
  refine (unhide HCK).mono ?_
  rintro e w1 ⟨x, rfl, hx, hb1⟩
  obtain ⟨t0, t1, t2⟩ := three w.heap (.cells #[p1, p2, p3] 33) (.cells #[v0, v1, v2, v3] 29) (.cells #[.int .i64 0, .int .i64 0, .int .i64 0, .int .i64 0, .int .i64 0, .int .i64 0, .int .i64 0] 37)
  have hsz3 : (((w.alloc (.cells #[p1, p2, p3] 33)).alloc (.cells #[v0, v1, v2, v3] 29)).alloc (.cells #[.int .i64 0, .int .i64 0, .int .i64 0, .int .i64 0, .int .i64 0, .int .i64 0, .int .i64 0] 37)).heap.size = w.heap.size + 3 := by simp
  have b34 := (hb1.block w.heap.size (by omega)).trans t0
  have b38 := (hb1.block (w.heap.size + 1) (by omega)).trans t1
  have b76 := (hb1.block (w.heap.size + 2) (by omega)).trans t2
  have hz1 : w.heap.size + 3 ≤ w1.heap.size := by rw [← hsz3]; exact hb1.size
  have hf1 : Fr (fun _ => False) w w1 (fun _ => False) := (Fr.of_below hB3).trans (Fr.of_below hb1)
  have c34 := fun j => cell_of_row w1 w.heap.size j _ 33 (0, 0) b34
  have c38 := fun j => cell_of_row w1 (w.heap.size + 1) j _ 29 (0, 0) b38
  have c76 := fun j => cell_of_row w1 (w.heap.size + 2) j _ 37 (0, 0) b76
  have z76 := fun j => frozen_rowE b76 j
  have B34 := hide b34
  have B76 := hide b76
  have HX := hide hx
  have HF1 := hide hf1
  clear t0 t1 t2 hsz3 b34 b38 b76 hb1 hx hf1 HCK hB3
  by_cases hx0 : x = 0
  · subst hx0
    have ho := pgok_of_ans (unhide HX)
    have hf1 := unhide HF1
    have pr : ∀ q, P q → w1.heap[q]? = w.heap[q]? := fun q hq => hf1.same q (hP q hq) (fun h => h)
    have h48 := new_any (w := w1) (P := P) (fun q hq => by have := hP q hq; omega) (h0.vals.block pr) (h1.block pr) (h2.vals.block pr) (h3.vals.block pr) (by simpa using Nat.le_trans n0 (by omega)) (by simpa using Nat.le_trans n1 (by omega)) (by simpa using Nat.le_trans n2 (by omega)) (by simpa using Nat.le_trans n3 (by omega))
    have H48 := hide h48
    have HO := hide ho
    clear h48 pr hf1 ho
    go_wp2_with fail
    go_at_call 36
    refine (unhide H48).mono ?_
    rintro e W1 ⟨rfl, hW1⟩
    obtain ⟨f0, fW, _⟩ := newW_facts w1 v0 v1 v2 v3 (lc.map (.int .i64)) (bs.map (·.1)) (lp.map (.int .i64)) (ll.map (.int .i64))
    rw [← hW1] at f0 fW
    have h49 : Calls Tryz.prog 37 #[] W1 fun e w' => ∃ v, e = .returned (.pointer (some ⟨w1.heap.size + 7, 0, none⟩)) ∧ LogAt w' (W1.heap.size + 1) W1.heap.size v headS ∧ Fr (fun _ => False) W1 w' (fun _ => False) ∧ (∀ k, own v k → k = W1.heap.size) ∧ w'.heap.size = W1.heap.size + 2 := by
      refine (newWriter_any W1).mono ?_
      rintro e w' ⟨v, rfl, r⟩
      exact ⟨v, by rw [f0], r⟩
    have HW1 := hide hW1
    have F0 := hide f0
    have FW := hide fW
    have H49 := hide h49
    clear hW1 f0 fW h49 H48
    go_wp2_with fail
    go_at_call 37
    refine (unhide H49).mono ?_
    rintro e w2 ⟨v, rfl, lg, fr2, hown, hz2⟩
    have hL1 : ∀ q, L q → q < w1.heap.size := fun q hq => by have := hL q hq; omega
    have hsame1 : ∀ q, q < w.heap.size → w1.heap[q]? = w.heap[q]? := fun q hq => (unhide HF1).same q hq (fun h => h)
    obtain ⟨hrec, hf3, hz3, hz2'⟩ := rec_start (w := w1) (L := L) hL1 (fun b hb => ⟨(hbs b hb).1.block (fun q hq => hsame1 q (hL q hq).2), (hbs b hb).2⟩) (by omega) (unhide HW1) lg fr2 hown hz2
    have hf2 : Fr (fun _ => False) w1 w2 (fun _ => False) := (unhide FW).trans fr2
    have d34 := fun j => cell_of_row w2 w.heap.size j _ 33 (0, 0) ((hf2.same _ (by omega) (fun h => h)).trans (unhide B34))
    have e34 := fun j => cell_of_row (w2.alloc (.cells #[.pointer (some ⟨w1.heap.size + 5, 0, none⟩), .pointer (some ⟨w1.heap.size + 7, 0, none⟩)] 95)) w.heap.size j _ 33 (0, 0) ((hf3.same _ (by omega) (fun h => h)).trans (unhide B34))
    have hne1 : w.heap.size ≠ w2.heap.size := by omega
    have hne1' : ¬ w2.heap.size = w.heap.size := by omega
    have hbel3 : Below w0.heap.size w0 (w2.alloc (.cells #[.pointer (some ⟨w1.heap.size + 5, 0, none⟩), .pointer (some ⟨w1.heap.size + 7, 0, none⟩)] 95)) := hbel.trans (((unhide HF1).trans hf3).below (B := w0.heap.size) (fun k hk => hk.elim) hw0)
    have h50 := run_any (recA_law (w1.heap.size + 8) L (fun q => w1.heap[q]?)) (recA_hear (w1.heap.size + 8) L (fun q => w1.heap[q]?)) mayR_ok recAsk_ok (w0 := w0) (B := w0.heap.size) (T := recT w1.heap.size L) rfl hbel3 (fun k hk => by
      rw [hz3]
      rcases hk with hk | hk
      · omega
      · have := hL k hk; omega) hrec p1 p2 p3 (p := p) ⟨hv.s, hv.t, hv.f⟩ (unhide HO) f (by show lc.length ≤ 5000000; omega)
    have H50 := hide h50
    have HB76 := hide ((hf3.same (w.heap.size + 2) (by omega) (fun h => h)).trans (unhide B76))
    have HF3 := hide hf3
    have HZ3 := hide hz3
    have HZ2 := hide hz2'
    clear lg fr2 hown hz2 H49 hf2 hrec hf3 hz3 h50 hbel3 hz2'
    rw [← unhide HZ2] at H50
    go_wp2_with fail
    go_at_call 29
    refine (unhide H50).mono ?_
    rintro e w4 ⟨vt, s', S', T', b, rfl, hs, hri, hfr⟩
    change s' = (recM p f lc bs lp ll).1 at hs
    change RI _ _ S' w4 b _ vt T' s' (recM p f lc bs lp ll).2 at hri
    have hfin := runM_fin recAsk_end p (lc.length + 1) f ⟨lc, bs, lp, ll, headS⟩
    change FinOk (recM p f lc bs lp ll).1 at hfin
    rw [← hs] at hfin
    have hpost : RecPost w p f lc bs lp ll = fun e w' => Fr (fun _ => False) w w' (fun _ => False) ∧ ∃ x, Ans p.tn p.fn (1 + p.tn + p.fn) (allL p.sn p.tn p.tl p.fl) (allF p.tn p.sf p.tf p.ff) x ∧
        ((x ≠ 0 ∧ e = .returned (.tuple #[.string ⟨#[]⟩, .slice none 0 0, .agg #[.int .i64 0, .int .i64 0, .int .i64 0, .int .i64 0, .int .i64 0, .int .i64 0, .int .i64 0], .int .i64 x])) ∨
        (x = 0 ∧ ∃ vt, e = .returned (.tuple #[.string (recLog (recM p f lc bs lp ll)), vt, finV s', .int .i64 0]) ∧ w'.ownsRow w.heap.size 72 3 vt s'.trace.length (flatE s'.trace))) := by
      rw [hs]; rfl
    rw [show recLog (recM p f lc bs lp ll) = (recM p f lc bs lp ll).2.log ++ frameS (bodyS 5 0 s'.fin.toNat) by rw [hs]; rfl] at hpost
    rw [hpost] at HR
    clear hpost hs
    generalize (recM p f lc bs lp ll).2 = x' at *
    obtain ⟨sb, lb, c0, c1, c2, c3, B', v', hrc⟩ := hri.src
    have hz4 : w2.heap.size < w4.heap.size := Nat.lt_of_lt_of_le (by simp) hfr.size
    have hTn : ∀ q, q < w1.heap.size + 1 → recT w1.heap.size L q → L q := fun q h1 h2 => h2.elim (fun h => by omega) id
    have hS2 : ∀ q, q < w1.heap.size + 1 → S' q → L q := fun q h1 h2 => hTn q h1 (hfr.old q (by rw [unhide HZ3]; omega) h2)
    have hn2 : ¬ S' (w.heap.size + 1 + 1) := fun h => by have := hL _ (hS2 _ (by omega) h); omega
    have hlgT : ∀ q, lgS lb v' q → T' q ∧ ¬ L q := fun q h => h.elim (fun h => by rw [h]; exact ⟨(hrc.inT lb (by simp)).1, (hrc.inT lb (by simp)).2.1⟩) (fun h => hrc.vT q h)
    have b76 : w4.heap[w.heap.size + 1 + 1]? = some (.cells #[.int .i64 0, .int .i64 0, .int .i64 0, .int .i64 0, .int .i64 0, .int .i64 0, .int .i64 0] 37) :=
      (hfr.same _ (by rw [unhide HZ3]; omega) (fun h => by have := hL _ (hTn _ (by omega) h); omega)).trans (unhide HB76)
    have hend := wend_any (w := (w4.alloc (.cells #[.int .i64 s'.fin, .int .i64 (s'.reg 0), .int .i64 (s'.reg 1), .int .i64 (s'.reg 2), .int .i64 (s'.reg 3), .int .i64 s'.clock, .int .i64 s'.heard] 37)).drew) (lb := lb) (B := B') (v := v') (b := x'.log)
      (hrc.log.block (fun q hq => Below.heap_alloc _ _ _ (by
        rcases hq with rfl | hq
        · exact hrc.log.lt
        · exact (hrc.log.row.bump q hq).2)) (by show w4.heap.size ≤ (w4.alloc _).heap.size; simp))
      (by show B' ≤ (w4.alloc _).heap.size; have := hrc.low; simp; omega) s'.fin.toNat (by have := hfin.2; omega) (by have := hrc.room; omega)
    have hfn : (s'.fin.toNat : Int) = s'.fin := by have := hfin.1; omega
    rw [hfn] at hend
    have r1 : w4.cell? ⟨w2.heap.size, 1, none⟩ = some (.pointer (some ⟨lb, 0, none⟩)) := hrc.r1
    have hne4 : w2.heap.size ≠ w4.heap.size := by omega
    have hne4' : ¬ w4.heap.size = w2.heap.size := by omega
    have hz76 : w.heap.size + 1 + 1 < w4.heap.size := (Array.getElem?_eq_some_iff.1 b76).1
    have hne5 : w.heap.size + 1 + 1 ≠ w4.heap.size := by omega
    have nl : ¬ lgS lb v' (w.heap.size + 1 + 1) := fun h => hn2 (hri.inT _ (hlgT _ h).1).1
    have nb : ¬ lgS lb v' w4.heap.size := fun h => by have := (hri.bound _ (hri.inT _ (hlgT _ h).1).1).2; omega
    have HEND := hide hend
    have HRI := hide hri
    have HFR := hide hfr
    have HRC := hide hrc
    have HB := hide b76
    have NL := hide nl
    have NB := hide nb
    clear hend hri hfr hrc b76 nl nb H50
    have hv4 := fun j => cell_of_row (w4.alloc (.cells #[.int .i64 s'.fin, .int .i64 (s'.reg 0), .int .i64 (s'.reg 1), .int .i64 (s'.reg 2), .int .i64 (s'.reg 3), .int .i64 s'.clock, .int .i64 s'.heard] 37)) w4.heap.size j _ 37 (0, 0) (heap_alloc_new _ _)
    go_wp2_with fail
    go_region_with (go_at_call 38; refine (unhide HEND).mono ?_; rintro e w6 ⟨v6, rfl, l6, f6⟩; have q1 := (f6.same (w.heap.size + 1 + 1) (by show _ < (w4.alloc _).heap.size; simp; omega) (unhide NL)).trans ((Below.heap_alloc _ _ _ hz76).trans (unhide HB)); have q2 := (f6.same w4.heap.size (by show _ < (w4.alloc _).heap.size; simp) (unhide NB)).trans (heap_alloc_new w4 _); have u1 := fun j => cell_of_row w6 _ j _ 37 (0, 0) q1; have u2 := fun j => cell_of_row w6 _ j _ 37 (0, 0) q2; have uf := fun j => frozen_rowE q1 j; have F6 := hide f6; have Q1 := hide q1; clear l6 f6 q1 q2)
    all_goals
      go_wp2
      obtain ⟨g1, g2, g3⟩ := rec_end (unhide HRI) (unhide HRC) (unhide HFR) hz1 (unhide HF1) (unhide HF3) (by rw [unhide HZ3]; omega) (unhide F6)
      have g0 := fun j => cell_of_row _ _ j _ 37 (0, 0) (out7 (unhide Q1) (.int .i64 s'.fin) (.int .i64 (s'.reg 0)) (.int .i64 (s'.reg 1)) (.int .i64 (s'.reg 2)) (.int .i64 (s'.reg 3)) (.int .i64 s'.clock) (.int .i64 s'.heard))
      refine bodyPost_ret (v := .tuple #[.string (x'.log ++ frameS (bodyS 5 0 s'.fin.toNat)), vt, finV s', .int .i64 0]) (by simp [results, Tryz.results22, go_sem, Act.put, g0, finV]) rfl ?_
      rw [← unhide HR]
      refine ⟨out7_fr g1 (.inr (by omega)) _ _ _ _ _ _ _, 0, unhide HX, .inr ⟨rfl, vt, rfl, ?_⟩⟩
      refine ownsRow_of_block g2 (fun q hq => ?_)
      have hq' := g3 q hq
      rw [Below.heap_setCell _ _ _ _ hq', Below.heap_setCell _ _ _ _ hq', Below.heap_setCell _ _ _ _ hq', Below.heap_setCell _ _ _ _ hq', Below.heap_setCell _ _ _ _ hq', Below.heap_setCell _ _ _ _ hq', Below.heap_setCell _ _ _ _ hq']
  · have hxb : (x == 0) = false := by simpa using hx0
    go_wp2
    have g0 := fun j => cell_of_row _ _ j _ 37 (0, 0) (out7 (unhide B76) (.int .i64 0) (.int .i64 0) (.int .i64 0) (.int .i64 0) (.int .i64 0) (.int .i64 0) (.int .i64 0))
    refine bodyPost_ret (v := .tuple #[.string ⟨#[]⟩, .slice none 0 0, .agg #[.int .i64 0, .int .i64 0, .int .i64 0, .int .i64 0, .int .i64 0, .int .i64 0, .int .i64 0], .int .i64 x]) (by simp [results, Tryz.results22, go_sem, g0]) rfl ?_
    rw [← unhide HR]
    exact ⟨out7_fr (unhide HF1) (.inr (by omega)) _ _ _ _ _ _ _, x, unhide HX, .inl ⟨hx0, rfl⟩⟩
end Go.Proofs.YtfmbebofllgmoaaGreatDoor
namespace Go.Proofs.YtfmbebofllgmoaaGreatDoor
open Go.RowKit

/-- How a run may end, N being the greatest end. -/
def FinIn (N : Int) (s : PS) : Prop := 0 ≤ s.fin ∧ s.fin ≤ N
section
variable {σ : Type} {ask : σ → Int → Int → Rep × σ} {N : Int}
def EndIn (N : Int) (ask : σ → Int → Int → Rep × σ) : Prop := ∀ x k o, 0 ≤ (ask x k o).1.e ∧ (ask x k o).1.e ≤ N
theorem ckS_in (hN : 4 ≤ N) {s : PS} {R : Rep} (h : FinIn N s) (hR : 0 ≤ R.e ∧ R.e ≤ N) : FinIn N (ckS s R) := by
  unfold ckS
  exact ite_ok (P := FinIn N) (ite_ok (P := FinIn N) ⟨by show (0 : Int) ≤ 4; omega, by show (4 : Int) ≤ N; omega⟩ h) hR
theorem opM_in (hN : 4 ≤ N) (he : EndIn N ask) (o : O3) (s : PS) (x : σ) (h : FinIn N s) : FinIn N (opM ask o s x).1 := by
  unfold opM
  have h1 := ckS_in hN h (he x 1 0)
  repeat' (refine ite_ok (P := fun q : PS × σ => FinIn N q.1) ?_ ?_)
  all_goals first
    | exact h
    | exact ite_ok (P := FinIn N) h1 h1
    | exact ite_ok (P := FinIn N) h (he x 4 _)
    | exact ite_ok (P := FinIn N) h h
    | exact ⟨by show (0 : Int) ≤ 1; omega, by show (1 : Int) ≤ N; omega⟩
theorem hM_in (hN : 4 ≤ N) (he : EndIn N ask) {f : Nat → O3} {n : Nat} : ∀ (k : Nat) (s : PS) (x : σ), FinIn N s → FinIn N (hM ask f n k s x).1
  | 0, _, _, h => h
  | k + 1, s, x, h => by
    unfold hM
    refine ite_ok (P := fun q : PS × σ => FinIn N q.1) (ite_ok (P := fun q : PS × σ => FinIn N q.1) ⟨by show (0 : Int) ≤ 3; omega, by show (3 : Int) ≤ N; omega⟩ ?_) h
    exact hM_in hN he k _ _ (opM_in hN he _ _ _ h)
theorem frM_in (hN : 4 ≤ N) (he : EndIn N ask) (p : Pg) : ∀ (l : List TM) (s : PS) (x : σ), FinIn N s → FinIn N (frM (gT ask p) l s x).1
  | [], _, _, h => h
  | t :: r, s, x, h => by
    unfold frM
    refine ite_ok (P := fun q : PS × σ => FinIn N q.1) h (ite_ok (P := fun q : PS × σ => FinIn N q.1) ?_ (frM_in hN he p r s x h))
    exact frM_in hN he p r _ _ (hM_in hN he _ _ _ h)
theorem wkM_in (hN : 4 ≤ N) (he : EndIn N ask) (p : Pg) : ∀ (k : Nat) (l : List Int) (s : PS) (x : σ), FinIn N s → FinIn N (wkM ask (gF ask p) k l s x).1
  | 0, _, _, _, h => h
  | k + 1, l, s, x, h => by
    have h1 : FinIn N (pk ask l.length s x).2.2.1 := by
      unfold pk
      exact ite_ok (P := fun q : Int × Bool × PS × σ => FinIn N q.2.2.1) h (ite_ok (P := FinIn N) h (he x 3 l.length))
    have h2 : ∀ z x', FinIn N (wk1 (gF ask p) z (pk ask l.length s x).2.2.1 x').1 := fun z x' => by
      unfold wk1
      exact ite_ok (P := fun q : PS × σ => FinIn N q.1) (hM_in hN he _ _ _ h1) h1
    unfold wkM
    exact ite_ok (P := fun q : PS × σ => FinIn N q.1) h (ite_ok (P := fun q : PS × σ => FinIn N q.1) (wkM_in hN he p k _ _ _ (h2 _ _)) h1)
theorem turnM_in (hN : 4 ≤ N) (he : EndIn N ask) (p : Pg) (s : PS) (x : σ) (h : FinIn N s) : FinIn N (turnM ask p s x).1 := by
  have h1 := ckS_in hN h (he x 1 0)
  have h2 := frM_in hN he p (dueS (ckS s (ask x 1 0).1)) _ (ask x 1 0).2 h1
  have h3 : ∀ (s : PS) (x : σ), FinIn N s → FinIn N (wakeM ask p s x).1 := fun s x h => by
    unfold wakeM
    exact ite_ok (P := fun q : PS × σ => FinIn N q.1) (wkM_in hN he p _ _ _ _ h) (he x 2 0)
  unfold turnM
  exact ite_ok (P := fun q : PS × σ => FinIn N q.1) ⟨by show (0 : Int) ≤ 2; omega, by show (2 : Int) ≤ N; omega⟩ (ite_ok (P := fun q : PS × σ => FinIn N q.1) (ite_ok (P := fun q : PS × σ => FinIn N q.1) (h3 _ _ h2) h2) h1)
theorem runM_in (hN : 4 ≤ N) (he : EndIn N ask) (p : Pg) (k : Nat) (f : Int) (x : σ) : FinIn N (runM ask p k f x).1 := by
  have ht : ∀ (k : Nat) (s : PS) (x : σ), FinIn N s → FinIn N (turnsM ask p k s x).1 := by
    intro k
    induction k with
    | zero => intro s x h; exact h
    | succ k ih =>
      intro s x h
      unfold turnsM
      exact ite_ok (P := fun q : PS × σ => FinIn N q.1) (ih _ _ (turnM_in hN he p s x h)) h
  unfold runM
  exact ht k _ _ (hM_in hN he _ _ _ ⟨by show (0 : Int) ≤ 0; omega, by show (0 : Int) ≤ N; omega⟩)
end
theorem recAsk_in : EndIn 5 recAsk := by
  intro x k o
  by_cases h : (recAsk x k o).1.e = 0
  · rw [h]; omega
  · rw [rec_none x k o h]; simp [noRep]

theorem gAsk_ok {σ : Type} {ask : σ → Int → Int → Rep × σ} {mes : σ → Nat} (h : SrcOk ask mes) : SrcOk (gAsk ask) (fun y => mes y.x) := by
  refine ⟨?_, ?_, ?_, ?_, ?_, gAsk_most h.most⟩
  · intro y k o
    unfold gAsk
    split
    · exact Nat.le_refl _
    · split
      · exact h.le y.x k o
      · exact h.le y.x k o
  · intro y he
    unfold gAsk at he ⊢
    split at he
    · simp [noRep] at he
    · rename_i hz
      rw [if_neg hz]
      split at he
      · rename_i h0; rw [if_pos h0]; exact h.lt y.x h0
      · rename_i h0; exact absurd he h0
  · intro y he
    unfold gAsk at he ⊢
    split at he
    · simp [noRep] at he
    · rename_i hz
      rw [if_neg hz]
      split at he
      · rename_i h0; rw [if_pos h0]; exact h.clock y.x h0
      · rename_i h0; exact absurd he h0
  · intro y n h2 h8 he
    unfold gAsk at he ⊢
    split at he
    · simp [noRep] at he
    · rename_i hz
      rw [if_neg hz]
      split at he
      · rename_i h0; rw [if_pos h0]; exact h.pick y.x n h2 h8 h0
      · rename_i h0; exact absurd he h0
  · intro y z hz
    unfold gAsk at hz
    split at hz
    · simp [noRep] at hz
    · split at hz
      · exact h.files y.x z hz
      · exact h.files y.x z hz

theorem frs_snoc (l : List Inp) (x : Inp) : frs (l ++ [x]) = frs l ++ frL x := by unfold frs; simp
theorem bs_head : bs headS = hd3 := by
  unfold headS
  rw [bs_push, bs_push, bs_push, bs_empty]
  rfl
/-- What holds of a recorder and what was heard of it. -/
def RecI (M : Nat) (h : Int) (y : GS RS) : Prop := h = y.l.length ∧ bs y.x.log = hd3 ++ frs y.l ∧ (∀ i, i ∈ y.l → Fit i ∧ i.1 ≠ 5) ∧ y.l.length + y.x.left ≤ M
theorem wrap_succ (n : Nat) (h : n ≤ 50000000) : wrap64 ((n : Int) + 1) = ((n + 1 : Nat) : Int) := by unfold wrap64; omega
theorem recI_step {M : Nat} (hM : M ≤ 50000000) (h : Int) (y : GS RS) (k o : Int) (hm : mayR k o) (_ : y.z = false) (hi : RecI M h y) (he : (recAsk y.x k o).1.e = 0) : RecI M (wrap64 (h + 1)) ⟨(recAsk y.x k o).2, y.l ++ [inpOf (recAsk y.x k o).1], false⟩ := by
  obtain ⟨h1, h2, h3, h4⟩ := hi
  obtain ⟨_, _, a3, a4, _, a6, a7⟩ := rec_ans hm he
  refine ⟨?_, ?_, ?_, ?_⟩
  · show wrap64 (h + 1) = ((y.l ++ [inpOf (recAsk y.x k o).1]).length : Int)
    rw [h1, wrap_succ _ (by omega), List.length_append]; rfl
  · show bs (recAsk y.x k o).2.log = hd3 ++ frs (y.l ++ [inpOf (recAsk y.x k o).1])
    rw [a6, h2, frs_snoc, List.append_assoc]
  · intro i hi
    rcases List.mem_append.1 hi with hi | hi
    · exact h3 i hi
    · rw [List.mem_singleton.1 hi]; exact ⟨a3, a4⟩
  · show (y.l ++ [inpOf (recAsk y.x k o).1]).length + (recAsk y.x k o).2.left ≤ M
    rw [List.length_append]; simp only [List.length_cons, List.length_nil]; omega

/-- A recorded run: what it heard, and how. -/
structure RecRun (p : Pg) (f : Int) (x : RS) (s : PS) (xs : List Inp) : Prop where
  fit : ∀ i, i ∈ xs → Fit i ∧ i.1 ≠ 5
  heard : s.heard = xs.length
  fin : 1 ≤ s.fin ∧ s.fin ≤ 5
  small : xs.length ≤ 50000000
  ghost : ∃ k0 y, (∀ k, k0 ≤ k → runM (gAsk recAsk) p k f ⟨x, [], false⟩ = (s, y)) ∧ y.l = xs ∧ (y.z = true → s.fin = 5)
theorem rec_run {p : Pg} (hp : PgOk p) (f : Int) (lc : List Int) (bt : List (Value × List Int)) (lp ll : List Int) (hN : lc.length + bt.length + lp.length + ll.length ≤ 50000000) :
    ∃ xs, RecRun p f ⟨lc, bt, lp, ll, headS⟩ (recM p f lc bt lp ll).1 xs ∧ bs (recLog (recM p f lc bt lp ll)) = logL xs (recM p f lc bt lp ll).1.fin.toNat ∧ xs.length ≤ lc.length + bt.length + lp.length + ll.length := by
  obtain ⟨y, hrun, hx, hI, hz⟩ := ghost_run mayR_ok recAsk_ok.most hp (I := RecI (lc.length + bt.length + lp.length + ll.length)) (E := fun e => e = 5) (x := (⟨lc, bt, lp, ll, headS⟩ : RS)) ⟨rfl, by rw [bs_head]; simp [frs], fun i h => absurd h (by simp), by show 0 + (lc.length + bt.length + lp.length + ll.length) ≤ lc.length + bt.length + lp.length + ll.length; omega⟩ (recI_step hN)
    (fun h y k o hm hz hi he => ⟨by rw [rec_none y.x k o he]; exact hi, by rw [rec_none y.x k o he]; rfl⟩) (lc.length + 1) f
  have hmore := runM_more (gAsk_ok recAsk_ok) p f ⟨(⟨lc, bt, lp, ll, headS⟩ : RS), [], false⟩ (lc.length + 1) (Nat.lt_succ_self _)
  have hfin := runM_in (by omega) recAsk_in p (lc.length + 1) f (⟨lc, bt, lp, ll, headS⟩ : RS)
  have hne := (runM_more recAsk_ok p f (⟨lc, bt, lp, ll, headS⟩ : RS) (lc.length + 1) (Nat.lt_succ_self _)).1
  have hr : recM p f lc bt lp ll = runM recAsk p (lc.length + 1) f ⟨lc, bt, lp, ll, headS⟩ := rfl
  rw [← hr] at hrun hx hI hz hfin hne
  obtain ⟨i1, i2, i3, i4⟩ := hI
  have hf1 : 1 ≤ (recM p f lc bt lp ll).1.fin ∧ (recM p f lc bt lp ll).1.fin ≤ 5 := by have h1 := hfin.1; have h2 := hfin.2; omega
  refine ⟨y.l, ⟨i3, i1, hf1, by omega, lc.length + 1, y, fun k hk => by rw [hmore.2 k hk, hrun], rfl, hz⟩, ?_, by omega⟩
  have he := fit_end (recM p f lc bt lp ll).1.fin.toNat (by omega) (by omega)
  unfold recLog
  rw [bs_append, ← hx, i2, bs_frame he (bs_body1 5 0 _ [] (.inr rfl)), List.append_assoc]
  rfl

end Go.Proofs.YtfmbebofllgmoaaGreatDoor
namespace Go.Proofs.YtfmbebofllgmoaaGreatDoor
open Go.RowKit

/-! ### What is read fits -/
/-! ### The source in memory -/
/-! ### It is made -/
theorem row_cell {W : World} {B e size n : Nat} {v : Value} {xs : List Value} (h : W.ownsRow B e size v n xs) (hn : 0 < n) : ∃ g c, v = .slice (some ⟨g, 0, none⟩) n c ∧ B ≤ g ∧ g < W.heap.size ∧ ∀ j u, xs[j]? = some u → W.cell? ⟨g, j, none⟩ = some u := by
  rcases h.2 with ⟨_, h0⟩ | ⟨g, cap, cur, hv, hB, hg, h1, h2, h3, h4⟩
  · omega
  · refine ⟨g, cap, hv, hB, (Array.getElem?_eq_some_iff.1 hg).1, fun j u hj => ?_⟩
    rw [cell_of_row W g j cur e (0, 0) hg]
    have hlt := (List.getElem?_eq_some_iff.1 hj).1
    rw [← h4, List.getElem?_take_of_lt (by rw [← h4, List.length_take] at hlt; omega)] at hj
    simpa using hj
end Go.Proofs.YtfmbebofllgmoaaGreatDoor
namespace Go.Proofs.YtfmbebofllgmoaaGreatDoor
open Go.RowKit
attribute [local go_sem ↓] Go.wp_at_zero Go.wp_at_succ
attribute [local go_sem] Oper.semAt_some

theorem row_shape {W : World} {B e size n : Nat} {v : Value} {xs : List Value} (h : W.ownsRow B e size v n xs) : ∃ a c, v = .slice a n c := by
  rcases h.2 with ⟨h1, h0⟩ | ⟨g, cap, cur, hv, _⟩
  · exact ⟨none, 0, by rw [h0]; exact h1⟩
  · exact ⟨_, _, hv⟩
end Go.Proofs.YtfmbebofllgmoaaGreatDoor
namespace Go.Proofs.YtfmbebofllgmoaaGreatDoor
open Go.RowKit
section
variable {σ : Type} {ask : σ → Int → Int → Rep × σ} {mes : σ → Nat}
theorem turnsM_rinv (hs : SrcOk ask mes) {p : Pg} (hp : PgOk p) : ∀ (k N : Nat) (s : PS) (x : σ), RInv p N s → RInv p (N + 16 * k) (turnsM ask p k s x).1
  | 0, _, _, _, h => h
  | k + 1, N, s, x, h => by
    unfold turnsM
    refine ite_ok (P := fun q : PS × σ => RInv p (N + 16 * (k + 1)) q.1) ?_ (h.mono (Nat.le_add_right _ _))
    exact (turnsM_rinv hs hp k (N + 16) _ _ (turnM_rinv hs hp x h)).mono (by omega)
theorem runM_trace (hs : SrcOk ask mes) {p : Pg} (hp : PgOk p) (k : Nat) (f : Int) (x : σ) : (runM ask p k f x).1.trace.length ≤ 5000 + 16 * k := by
  have hq0 : RInv p 5000 (s0 (min (max f 0) 5000)) := by
    refine ⟨⟨⟨by show 0 ≤ min (max f 0) 5000; omega, by show min (max f 0) 5000 ≤ 5000; omega⟩, ⟨by show (0 : Int) ≤ 0; omega, by show (0 : Int) ≤ 1099511627776; omega⟩, ⟨by show (0 : Int) ≤ 0; omega, by show (0 : Int) + min (max f 0) 5000 ≤ 5000; omega⟩, by show 0 + (min (max f 0) 5000).toNat ≤ 5000; omega⟩, ⟨fun _ h => absurd h Bool.false_ne_true, fun _ h => absurd h Bool.false_ne_true, fun _ h => absurd h Bool.false_ne_true, fun _ _ h => absurd h Bool.false_ne_true⟩⟩
  have hq1 := hM_rinv hs hp.sr (s0 (min (max f 0) 5000)) x hq0
  have h2 : RInv p (5000 + 16 * k) (runM ask p k f x).1 := turnsM_rinv hs hp k 5000 _ _ hq1
  have := h2.1.trace
  omega
end
theorem recM_trace {p : Pg} (hp : PgOk p) (f : Int) (lc : List Int) (bt : List (Value × List Int)) (lp ll : List Int) : (recM p f lc bt lp ll).1.trace.length ≤ 5000 + 16 * (lc.length + 1) := runM_trace recAsk_ok hp _ _ _
theorem plain2 : Tryz.prog.plainKey 2 = true := by kernel_rfl
theorem kcel2 : Tryz.prog.cellsOf 2 = 1 := by kernel_rfl
theorem und2 : Tryz.prog.underlying 2 = some (.int .i64) := by kernel_rfl
theorem eqInt2 (n : Nat) (a : Int) (w : World) : (Op.equalIn (n + 1) 2 (.int .i64 a) (.int .i64 a)).run Tryz.prog w = .ok true w := by
  simp [Op.equalIn, run_underlying und2]
theorem eqItems2 (n : Nat) (xs : Array Value) (w : World) : ∀ (l : List Nat), (∀ j, j ∈ l → ∃ z, xs[j]? = some (.int .i64 z)) → (Op.eqItems (n + 1) 2 1 xs xs l).run Tryz.prog w = .ok true w
  | [], _ => by simp [Op.eqItems]
  | j :: r, h => by
    obtain ⟨z, hz⟩ := h j (List.mem_cons_self ..)
    have p : (part 2 xs j).run Tryz.prog w = .ok (.int .i64 z) w := run_part_plain w plain2 hz
    have ih := eqItems2 n xs w r (fun i hi => h i (List.mem_cons_of_mem _ hi))
    simp only [Op.eqItems, Sem.run_bind, Nat.mul_one, p, Result.andThen_ok, eqInt2 n, Bool.not_true, Bool.false_eq_true, if_false]
    exact ih
theorem eq35n (n : Nat) (a b c d : Int) (w : World) : (Op.equalIn (n + 2) 35 (.agg #[.int .i64 a, .int .i64 b, .int .i64 c, .int .i64 d]) (.agg #[.int .i64 a, .int .i64 b, .int .i64 c, .int .i64 d])).run Tryz.prog w = .ok true w := by
  obtain ⟨i, hi⟩ := info_of_underlying und2
  rw [run_equalIn_array (P := Tryz.prog) w (n + 1) _ _ Tryz.underlying35 hi, kcel2]
  refine eqItems2 n _ w _ (fun j hj => ?_)
  have : j = 0 ∨ j = 1 ∨ j = 2 ∨ j = 3 := by have := List.mem_range.1 hj; omega
  rcases this with rfl | rfl | rfl | rfl <;> exact ⟨_, rfl⟩
theorem eq35 (a b c d : Int) (w : World) : (Op.equalIn 9999 35 (.agg #[.int .i64 a, .int .i64 b, .int .i64 c, .int .i64 d]) (.agg #[.int .i64 a, .int .i64 b, .int .i64 c, .int .i64 d])).run Tryz.prog w = .ok true w := eq35n 9997 a b c d w
end Go.Proofs.YtfmbebofllgmoaaGreatDoor
namespace Go.Proofs.YtfmbebofllgmoaaGreatDoor
open Go.RowKit
attribute [local go_sem ↓] Go.wp_at_zero Go.wp_at_succ

/-- A list of numbers that are all the same. -/
def FullI (w : World) (v : Value) (m : Int) : Prop := ∃ a n c, v = .slice a n c ∧ n ≤ 1000000000 ∧ (n = 0 ∨ ∃ q off, a = some ⟨q, off, none⟩ ∧ ∀ i, i < n → w.cell? ⟨q, off + i, none⟩ = some (.int .i64 m))
theorem fullInts_any {w : World} {v : Value} {m : Int} (h : FullI w v m) : Calls Tryz.prog 47 #[v, .int .i64 m] w fun e w' => e = .returned (.bool true) ∧ w' = w := by
  obtain ⟨a, n, c, rfl, hn, hc⟩ := h
  have HC := hide hc
  clear hc
  go_enter Tryz.func47, Tryz.ntmps47
  go_wp2
  go_loopw [5] (fun i wr => ∃ j : Nat, j ≤ n ∧ i = .int .i64 j ∧ wr = w) (fun i _ => n - (intOf i).toNat)
  case atStart => exact ⟨0, Nat.zero_le _, rfl, rfl⟩
  case round =>
    obtain ⟨j, hj, rfl, rfl⟩ := hrel
    by_cases hlt : j < n
    · rcases unhide HC with hz | ⟨q, off, rfl, hcq⟩
      · omega
      have g0 := hcq j hlt
      clear hcq HC
      have hk0 : (0 : Int) ≤ (j : Int) := by omega
      have hk1 : (j : Int) < (n : Int) := by omega
      go_wp2
      go_roundw
      case rel => exact ⟨j + 1, by omega, by go_num, trivial⟩
      case measure => simp [intOf]; omega
    · have hk1 : ¬ (j : Int) < (n : Int) := by omega
      go_wp2
      go_ret
      exact ⟨rfl, rfl⟩
/-- A list of inputs that are all one mark. -/
def FullN (w : World) (v : Value) (m : Int) : Prop := ∃ a n c, v = .slice a n c ∧ n ≤ 1000000000 ∧ (n = 0 ∨ ∃ q off, a = some ⟨q, off, none⟩ ∧ ∀ i, i < n → w.cell? ⟨q, off + i * 4, none⟩ = some (.int .i64 0) ∧ w.cell? ⟨q, off + i * 4 + 1, none⟩ = some (.int .i64 0) ∧ w.cell? ⟨q, off + i * 4 + 2, none⟩ = some (.int .i64 m) ∧ w.cell? ⟨q, off + i * 4 + 3, none⟩ = some (.slice none 0 0))
theorem fullInputs_any {w : World} {v : Value} {m : Int} (h : FullN w v m) : Calls Tryz.prog 49 #[v, .int .i64 m] w fun e w' => e = .returned (.bool true) ∧ w' = w := by
  obtain ⟨a, n, c, rfl, hn, hc⟩ := h
  have HC := hide hc
  clear hc
  go_enter Tryz.func49, Tryz.ntmps49
  go_wp2
  go_loopw [5] (fun i wr => ∃ j : Nat, j ≤ n ∧ i = .int .i64 j ∧ wr = w) (fun i _ => n - (intOf i).toNat)
  case atStart => exact ⟨0, Nat.zero_le _, rfl, rfl⟩
  case round =>
    obtain ⟨j, hj, rfl, rfl⟩ := hrel
    by_cases hlt : j < n
    · rcases unhide HC with hz | ⟨q, off, rfl, hcq⟩
      · omega
      obtain ⟨g0, g1, g2, g3⟩ := hcq j hlt
      clear hcq HC
      have hk0 : (0 : Int) ≤ (j : Int) := by omega
      have hk1 : (j : Int) < (n : Int) := by omega
      go_wp2
      go_roundw
      case rel => exact ⟨j + 1, by omega, by go_num, trivial⟩
      case measure => simp [intOf]; omega
    · have hk1 : ¬ (j : Int) < (n : Int) := by omega
      go_wp2
      go_ret
      exact ⟨rfl, rfl⟩
end Go.Proofs.YtfmbebofllgmoaaGreatDoor
namespace Go.Proofs.YtfmbebofllgmoaaGreatDoor
open Go.RowKit

theorem row_prefix {w : World} {B e size n m g cap : Nat} {xs news : List Value} (h : w.ownsRow B e size (.slice (some ⟨g, 0, none⟩) (n + m) cap) (n + m) (xs ++ news)) (hl : xs.length = n * size) : w.ownsRow B e size (.slice (some ⟨g, 0, none⟩) n cap) n xs := by
  obtain ⟨h0, h⟩ := h
  rcases h with ⟨hv, _⟩ | ⟨g', cap', cur, hv, hB, hg, h1, h2, h3, h4⟩
  · cases hv
  · cases hv
    refine ⟨hl, .inr ⟨g, cap, cur, rfl, hB, hg, by omega, h2, h3, ?_⟩⟩
    have h5 := congrArg (List.take (n * size)) h4
    rw [List.take_take, ← hl, List.take_left] at h5
    rw [← hl]
    rw [show min xs.length ((n + m) * size) = xs.length by rw [hl, Nat.add_mul]; omega] at h5
    exact h5
end Go.Proofs.YtfmbebofllgmoaaGreatDoor
namespace Go.Proofs.YtfmbebofllgmoaaGreatDoor
open Go.RowKit
attribute [local go_sem ↓] Go.wp_at_zero Go.wp_at_succ

/-- A list that came out, and those that are longer; its mark. -/
structure Ent where
  l : Value
  a : Value
  b : Value
  c : Value
  m : Int
def flat5 : List Ent → List Value
  | [] => []
  | e :: r => e.l :: e.a :: e.b :: e.c :: .int .i64 e.m :: flat5 r
theorem flat5_append (a b : List Ent) : flat5 (a ++ b) = flat5 a ++ flat5 b := by
  induction a with
  | nil => rfl
  | cons x r ih => simp [flat5, ih]
theorem flat5_get : ∀ (es : List Ent) (i : Nat) (e : Ent), es[i]? = some e → (flat5 es)[i * 5]? = some e.l ∧ (flat5 es)[i * 5 + 1]? = some e.a ∧ (flat5 es)[i * 5 + 2]? = some e.b ∧ (flat5 es)[i * 5 + 3]? = some e.c ∧ (flat5 es)[i * 5 + 4]? = some (.int .i64 e.m)
  | [], i, p, h => by simp at h
  | x :: r, 0, p, h => by
    simp at h
    subst h
    exact ⟨rfl, rfl, rfl, rfl, rfl⟩
  | x :: r, i + 1, p, h => by
    have hr := flat5_get r i p (by simpa using h)
    have e : ∀ j, (flat5 (x :: r))[(i + 1) * 5 + j]? = (flat5 r)[i * 5 + j]? := fun j => by
      rw [show (i + 1) * 5 + j = (i * 5 + j) + 5 by omega]; rfl
    exact ⟨(e 0).trans hr.1, (e 1).trans hr.2.1, (e 2).trans hr.2.2.1, (e 3).trans hr.2.2.2.1, (e 4).trans hr.2.2.2.2⟩
/-- A list of events that are all one mark. -/
def FullE (w : World) (v : Value) (m : Int) : Prop := ∃ a n c, v = .slice a n c ∧ n ≤ 1000000000 ∧ (n = 0 ∨ ∃ q off, a = some ⟨q, off, none⟩ ∧ ∀ i, i < n → w.cell? ⟨q, off + i * 3, none⟩ = some (.int .i64 0) ∧ w.cell? ⟨q, off + i * 3 + 1, none⟩ = some (.int .i64 m) ∧ w.cell? ⟨q, off + i * 3 + 2, none⟩ = some (.int .i64 0))
section
variable {w W : World} {v : Value} {m : Int}
theorem FullI.fr (h : FullI w v m) (hf : Fr (fun _ => False) w W (fun _ => False)) : FullI W v m := by
  obtain ⟨a, n, c, hv, hn, hc⟩ := h
  refine ⟨a, n, c, hv, hn, hc.imp id fun ⟨q, off, e, hcell⟩ => ⟨q, off, e, fun i hi => ?_⟩⟩
  exact (hf.cell q (off + i) (World.block_lt_of_cell? w _ (hcell i hi)) (fun h => h)).trans (hcell i hi)
theorem FullE.fr (h : FullE w v m) (hf : Fr (fun _ => False) w W (fun _ => False)) : FullE W v m := by
  obtain ⟨a, n, c, hv, hn, hc⟩ := h
  refine ⟨a, n, c, hv, hn, hc.imp id fun ⟨q, off, e, hcell⟩ => ⟨q, off, e, fun i hi => ?_⟩⟩
  obtain ⟨h0, h1, h2⟩ := hcell i hi
  have hq := World.block_lt_of_cell? w _ h0
  exact ⟨(hf.cell q _ hq (fun h => h)).trans h0, (hf.cell q _ hq (fun h => h)).trans h1, (hf.cell q _ hq (fun h => h)).trans h2⟩
theorem FullN.fr (h : FullN w v m) (hf : Fr (fun _ => False) w W (fun _ => False)) : FullN W v m := by
  obtain ⟨a, n, c, hv, hn, hc⟩ := h
  refine ⟨a, n, c, hv, hn, hc.imp id fun ⟨q, off, e, hcell⟩ => ⟨q, off, e, fun i hi => ?_⟩⟩
  obtain ⟨h0, h1, h2, h3⟩ := hcell i hi
  have hq := World.block_lt_of_cell? w _ h0
  exact ⟨(hf.cell q _ hq (fun h => h)).trans h0, (hf.cell q _ hq (fun h => h)).trans h1, (hf.cell q _ hq (fun h => h)).trans h2, (hf.cell q _ hq (fun h => h)).trans h3⟩
end
theorem fullEvents_any {w : World} {v : Value} {m : Int} (h : FullE w v m) : Calls Tryz.prog 48 #[v, .int .i64 m] w fun e w' => e = .returned (.bool true) ∧ Fr (fun _ => False) w w' (fun _ => False) := by
  obtain ⟨a, n, c, rfl, hn, hc⟩ := h
  have HC := hide hc
  clear hc
  go_enter Tryz.func48, Tryz.ntmps48
  go_wp2
  have hf1 : Fr (fun _ => False) w (w.alloc (.cells #[.int .i64 0, .int .i64 m, .int .i64 0] 72)) (fun _ => False) := (Fr.refl _ _).alloc _
  have hb1 := heap_alloc_new w (.cells #[.int .i64 0, .int .i64 m, .int .i64 0] 72)
  generalize hW : w.alloc (.cells #[.int .i64 0, .int .i64 m, .int .i64 0] 72) = W at *
  clear hW
  have HF1 := hide hf1
  have HB1 := hide hb1
  clear hf1 hb1
  go_loopw [6] (fun i wr => ∃ j : Nat, j ≤ n ∧ i = .int .i64 j ∧ Dr W wr) (fun i _ => n - (intOf i).toNat)
  case atStart => exact ⟨0, Nat.zero_le _, rfl, Dr.refl _⟩
  case round =>
    obtain ⟨j, hj, rfl, hd⟩ := hrel
    by_cases hlt : j < n
    · rcases unhide HC with hz | ⟨q, off, rfl, hcq⟩
      · omega
      obtain ⟨g0, g1, g2⟩ := hcq j hlt
      have hq := World.block_lt_of_cell? w _ g0
      have k0 := (hd.cell ⟨q, off + j * 3, none⟩).trans (((unhide HF1).cell q _ hq (fun h => h)).trans g0)
      have k1 := (hd.cell ⟨q, off + j * 3 + 1, none⟩).trans (((unhide HF1).cell q _ hq (fun h => h)).trans g1)
      have k2 := (hd.cell ⟨q, off + j * 3 + 2, none⟩).trans (((unhide HF1).cell q _ hq (fun h => h)).trans g2)
      have c1 := fun i => (hd.cell ⟨w.heap.size, i, none⟩).trans (cell_of_row W _ i _ 72 (0, 0) (unhide HB1))
      clear hcq HC g0 g1 g2
      have hk0 : (0 : Int) ≤ (j : Int) := by omega
      have hk1 : (j : Int) < (n : Int) := by omega
      go_wp2
      go_quiet (fail)
      go_wp2
      go_roundw
      case rel => exact ⟨j + 1, by omega, by go_num, hd.more _⟩
      case measure => simp [intOf]; omega
    · have hk1 : ¬ (j : Int) < (n : Int) := by omega
      go_wp2
      go_ret
      refine ⟨rfl, ?_⟩
      obtain ⟨k, rfl⟩ := hd
      exact (unhide HF1).drewN k

/-- The Book: its block, its rows, and every list as its owner wrote it. -/
structure BookIn (w : World) (B bb : Nat) (n : Int) (vI vE vN : Value) (LI LE LN : List Ent) : Prop where
  blk : w.heap[bb]? = some (.cells #[.int .i64 n, vI, vE, vN] 65)
  rI : w.ownsRow B 105 5 vI LI.length (flat5 LI)
  rE : w.ownsRow B 108 5 vE LE.length (flat5 LE)
  rN : w.ownsRow B 111 5 vN LN.length (flat5 LN)
  fI : ∀ e, e ∈ LI → FullI w e.l e.m ∧ FullI w e.a e.m ∧ FullI w e.b e.m ∧ FullI w e.c e.m
  fE : ∀ e, e ∈ LE → FullE w e.l e.m ∧ FullE w e.a e.m ∧ FullE w e.b e.m ∧ FullE w e.c e.m
  fN : ∀ e, e ∈ LN → FullN w e.l e.m ∧ FullN w e.a e.m ∧ FullN w e.b e.m ∧ FullN w e.c e.m
theorem BookIn.fr {w W : World} {B bb : Nat} {n : Int} {vI vE vN : Value} {LI LE LN : List Ent} (h : BookIn w B bb n vI vE vN LI LE LN) (hf : Fr (fun _ => False) w W (fun _ => False)) : BookIn W B bb n vI vE vN LI LE LN := by
  have er : ∀ {B e size n v xs}, w.ownsRow B e size v n xs → W.ownsRow B e size v n xs := fun hr => ownsRow_of_block hr (fun q hq => hf.same q (World.ownsRow.lt hr q hq).2 (fun h => h))
  exact ⟨(hf.same _ (Array.getElem?_eq_some_iff.1 h.blk).1 (fun h => h)).trans h.blk, er h.rI, er h.rE, er h.rN,
    fun e he => ⟨(h.fI e he).1.fr hf, (h.fI e he).2.1.fr hf, (h.fI e he).2.2.1.fr hf, (h.fI e he).2.2.2.fr hf⟩, fun e he => ⟨(h.fE e he).1.fr hf, (h.fE e he).2.1.fr hf, (h.fE e he).2.2.1.fr hf, (h.fE e he).2.2.2.fr hf⟩, fun e he => ⟨(h.fN e he).1.fr hf, (h.fN e he).2.1.fr hf, (h.fN e he).2.2.1.fr hf, (h.fN e he).2.2.2.fr hf⟩⟩
/-- An entry's cells. -/
theorem ent_cells {w : World} {B e : Nat} {v : Value} {es : List Ent} (h : w.ownsRow B e 5 v es.length (flat5 es)) {i : Nat} (hi : i < es.length) : ∃ g c, v = .slice (some ⟨g, 0, none⟩) es.length c ∧ w.cell? ⟨g, i * 5, none⟩ = some (es[i]).l ∧ w.cell? ⟨g, i * 5 + 1, none⟩ = some (es[i]).a ∧ w.cell? ⟨g, i * 5 + 2, none⟩ = some (es[i]).b ∧ w.cell? ⟨g, i * 5 + 3, none⟩ = some (es[i]).c ∧ w.cell? ⟨g, i * 5 + 4, none⟩ = some (.int .i64 (es[i]).m) := by
  obtain ⟨g, c, hv, _, _, hc⟩ := row_cell h (by omega)
  obtain ⟨g0, g1, g2, g3, g4⟩ := flat5_get es i es[i] (List.getElem?_eq_getElem hi)
  exact ⟨g, c, hv, hc _ _ g0, hc _ _ g1, hc _ _ g2, hc _ _ g3, hc _ _ g4⟩
theorem FullI.shape {w : World} {v : Value} {m : Int} (h : FullI w v m) : ∃ a n c, v = .slice a n c := by obtain ⟨a, n, c, hv, _⟩ := h; exact ⟨a, n, c, hv⟩
theorem FullE.shape {w : World} {v : Value} {m : Int} (h : FullE w v m) : ∃ a n c, v = .slice a n c := by obtain ⟨a, n, c, hv, _⟩ := h; exact ⟨a, n, c, hv⟩
theorem FullN.shape {w : World} {v : Value} {m : Int} (h : FullN w v m) : ∃ a n c, v = .slice a n c := by obtain ⟨a, n, c, hv, _⟩ := h; exact ⟨a, n, c, hv⟩
end Go.Proofs.YtfmbebofllgmoaaGreatDoor
namespace Go.Proofs.YtfmbebofllgmoaaGreatDoor
open Go.RowKit
attribute [local go_sem ↓] Go.wp_at_zero Go.wp_at_succ

set_option maxHeartbeats 4000000 in
set_option maxRecDepth 20000 in
theorem looks_any {w : World} {B bb : Nat} {n : Int} {vI vE vN : Value} {LI LE LN : List Ent} (h : BookIn w B bb n vI vE vN LI LE LN) (hI : LI.length ≤ 1000000000000) (hE : LE.length ≤ 1000000000000) (hN : LN.length ≤ 1000000000000) :
    Calls Tryz.prog 24 #[.pointer (some ⟨bb, 0, none⟩)] w fun e w' => e = .returned (.bool true) ∧ Fr (fun _ => False) w w' (fun _ => False) := by
  obtain ⟨aI, cI, rfl⟩ := row_shape h.rI
  obtain ⟨aE, cE, rfl⟩ := row_shape h.rE
  obtain ⟨aN, cN, rfl⟩ := row_shape h.rN
  have HB := hide h
  clear h
  go_enter Tryz.func24, Tryz.ntmps24
  go_wp2
  go_loopw [3] (fun i wr => ∃ j : Nat, j ≤ LI.length ∧ i = .int .i64 j ∧ Fr (fun _ => False) w wr (fun _ => False)) (fun i _ => LI.length - (intOf i).toNat)
  case atStart => exact ⟨0, Nat.zero_le _, rfl, Fr.refl _ _⟩
  case round =>
    obtain ⟨j, hj, rfl, hfr⟩ := hrel
    have hb := (unhide HB).fr hfr
    have cb := fun i => cell_of_row wr _ i _ 65 (0, 0) hb.blk
    by_cases hlt : j < LI.length
    · obtain ⟨g, cc, hv, k0, k1, k2, k3, k4⟩ := ent_cells hb.rI hlt
      injection hv with hv1 hv2 hv3
      subst hv1
      obtain ⟨f0, f1, f2, f3⟩ := hb.fI _ (List.getElem_mem hlt)
      generalize LI[j] = e at *
      obtain ⟨el, ea, eb, ec, em⟩ := e
      simp only at k0 k1 k2 k3 k4 f0 f1 f2 f3
      obtain ⟨a0, n0, c0, rfl⟩ := f0.shape
      obtain ⟨a1, n1, c1, rfl⟩ := f1.shape
      obtain ⟨a2, n2, c2, rfl⟩ := f2.shape
      obtain ⟨a3, n3, c3, rfl⟩ := f3.shape
      have fa : Fr (fun _ => False) wr (wr.alloc (.cells #[.slice a0 n0 c0, .slice a1 n1 c1, .slice a2 n2 c2, .slice a3 n3 c3, .int .i64 em] 105)) (fun _ => False) := (Fr.refl _ _).alloc _
      have xb := heap_alloc_new wr (.cells #[.slice a0 n0 c0, .slice a1 n1 c1, .slice a2 n2 c2, .slice a3 n3 c3, .int .i64 em] 105)
      have HF := hide (fun (W : World) (hW : Fr (fun _ => False) (wr.alloc (.cells #[.slice a0 n0 c0, .slice a1 n1 c1, .slice a2 n2 c2, .slice a3 n3 c3, .int .i64 em] 105)) W (fun _ => False)) => And.intro (f0.fr (fa.trans hW)) (And.intro (f1.fr (fa.trans hW)) (And.intro (f2.fr (fa.trans hW)) (f3.fr (fa.trans hW)))))
      have HX := hide (fun (W : World) (hW : Fr (fun _ => False) (wr.alloc (.cells #[.slice a0 n0 c0, .slice a1 n1 c1, .slice a2 n2 c2, .slice a3 n3 c3, .int .i64 em] 105)) W (fun _ => False)) (i : Nat) => cell_of_row W _ i _ 105 (0, 0) ((hW.same wr.heap.size (by simp) (fun h => h)).trans xb))
      have H0 := hide (fun (W : World) (hW : Fr (fun _ => False) (wr.alloc (.cells #[.slice a0 n0 c0, .slice a1 n1 c1, .slice a2 n2 c2, .slice a3 n3 c3, .int .i64 em] 105)) W (fun _ => False)) => (fullInts_any (unhide HF W hW).1))
      have H1 := hide (fun (W : World) (hW : Fr (fun _ => False) (wr.alloc (.cells #[.slice a0 n0 c0, .slice a1 n1 c1, .slice a2 n2 c2, .slice a3 n3 c3, .int .i64 em] 105)) W (fun _ => False)) => (fullInts_any (unhide HF W hW).2.1))
      have H2 := hide (fun (W : World) (hW : Fr (fun _ => False) (wr.alloc (.cells #[.slice a0 n0 c0, .slice a1 n1 c1, .slice a2 n2 c2, .slice a3 n3 c3, .int .i64 em] 105)) W (fun _ => False)) => (fullInts_any (unhide HF W hW).2.2.1))
      have H3 := hide (fun (W : World) (hW : Fr (fun _ => False) (wr.alloc (.cells #[.slice a0 n0 c0, .slice a1 n1 c1, .slice a2 n2 c2, .slice a3 n3 c3, .int .i64 em] 105)) W (fun _ => False)) => (fullInts_any (unhide HF W hW).2.2.2))
      have FA := hide fa
      have FW := hide hfr
      have FC := hide (Fr.refl (fun _ => False) (wr.alloc (.cells #[.slice a0 n0 c0, .slice a1 n1 c1, .slice a2 n2 c2, .slice a3 n3 c3, .int .i64 em] 105)))
      have hk0 : (0 : Int) ≤ (j : Int) := by omega
      have hk1 : (j : Int) < (LI.length : Int) := by omega
      have xc := unhide HX _ (unhide FC)
      clear f0 f1 f2 f3 fa xb hb hfr hv2 hv3 HF
      go_wp2_with (go_at_call 47; (first | (refine (unhide H0 _ (unhide FC)).mono ?_; clear H0) | (refine (unhide H1 _ (unhide FC)).mono ?_; clear H1) | (refine (unhide H2 _ (unhide FC)).mono ?_; clear H2) | (refine (unhide H3 _ (unhide FC)).mono ?_; clear H3)); rintro e w' ⟨rfl, hw'⟩; rw [hw']; clear hw' w')
      go_roundw
      case rel => exact ⟨j + 1, by omega, by go_num, (unhide FW).trans (unhide FA)⟩
      case measure => simp [intOf]; omega
    · have hk1 : ¬ (j : Int) < (LI.length : Int) := by omega
      have FW3 := hide hfr
      clear hb hfr
      go_wp2
      clear cb
      go_loopw [5] (fun i wr => ∃ j : Nat, j ≤ LE.length ∧ i = .int .i64 j ∧ Fr (fun _ => False) w wr (fun _ => False)) (fun i _ => LE.length - (intOf i).toNat)
      case atStart => exact ⟨0, Nat.zero_le _, rfl, unhide FW3⟩
      case round =>
        obtain ⟨j, hj, rfl, hfr⟩ := hrel
        have hb := (unhide HB).fr hfr
        have cb := fun i => cell_of_row wr _ i _ 65 (0, 0) hb.blk
        by_cases hlt : j < LE.length
        · obtain ⟨g, cc, hv, k0, k1, k2, k3, k4⟩ := ent_cells hb.rE hlt
          injection hv with hv1 hv2 hv3
          subst hv1
          obtain ⟨f0, f1, f2, f3⟩ := hb.fE _ (List.getElem_mem hlt)
          generalize LE[j] = e at *
          obtain ⟨el, ea, eb, ec, em⟩ := e
          simp only at k0 k1 k2 k3 k4 f0 f1 f2 f3
          obtain ⟨a0, n0, c0, rfl⟩ := f0.shape
          obtain ⟨a1, n1, c1, rfl⟩ := f1.shape
          obtain ⟨a2, n2, c2, rfl⟩ := f2.shape
          obtain ⟨a3, n3, c3, rfl⟩ := f3.shape
          have fa : Fr (fun _ => False) wr (wr.alloc (.cells #[.slice a0 n0 c0, .slice a1 n1 c1, .slice a2 n2 c2, .slice a3 n3 c3, .int .i64 em] 108)) (fun _ => False) := (Fr.refl _ _).alloc _
          have xb := heap_alloc_new wr (.cells #[.slice a0 n0 c0, .slice a1 n1 c1, .slice a2 n2 c2, .slice a3 n3 c3, .int .i64 em] 108)
          have HF := hide (fun (W : World) (hW : Fr (fun _ => False) (wr.alloc (.cells #[.slice a0 n0 c0, .slice a1 n1 c1, .slice a2 n2 c2, .slice a3 n3 c3, .int .i64 em] 108)) W (fun _ => False)) => And.intro (f0.fr (fa.trans hW)) (And.intro (f1.fr (fa.trans hW)) (And.intro (f2.fr (fa.trans hW)) (f3.fr (fa.trans hW)))))
          have HX := hide (fun (W : World) (hW : Fr (fun _ => False) (wr.alloc (.cells #[.slice a0 n0 c0, .slice a1 n1 c1, .slice a2 n2 c2, .slice a3 n3 c3, .int .i64 em] 108)) W (fun _ => False)) (i : Nat) => cell_of_row W _ i _ 108 (0, 0) ((hW.same wr.heap.size (by simp) (fun h => h)).trans xb))
          have H0 := hide (fun (W : World) (hW : Fr (fun _ => False) (wr.alloc (.cells #[.slice a0 n0 c0, .slice a1 n1 c1, .slice a2 n2 c2, .slice a3 n3 c3, .int .i64 em] 108)) W (fun _ => False)) => (fullEvents_any (unhide HF W hW).1))
          have H1 := hide (fun (W : World) (hW : Fr (fun _ => False) (wr.alloc (.cells #[.slice a0 n0 c0, .slice a1 n1 c1, .slice a2 n2 c2, .slice a3 n3 c3, .int .i64 em] 108)) W (fun _ => False)) => (fullEvents_any (unhide HF W hW).2.1))
          have H2 := hide (fun (W : World) (hW : Fr (fun _ => False) (wr.alloc (.cells #[.slice a0 n0 c0, .slice a1 n1 c1, .slice a2 n2 c2, .slice a3 n3 c3, .int .i64 em] 108)) W (fun _ => False)) => (fullEvents_any (unhide HF W hW).2.2.1))
          have H3 := hide (fun (W : World) (hW : Fr (fun _ => False) (wr.alloc (.cells #[.slice a0 n0 c0, .slice a1 n1 c1, .slice a2 n2 c2, .slice a3 n3 c3, .int .i64 em] 108)) W (fun _ => False)) => (fullEvents_any (unhide HF W hW).2.2.2))
          have FA := hide fa
          have FW := hide hfr
          have FC := hide (Fr.refl (fun _ => False) (wr.alloc (.cells #[.slice a0 n0 c0, .slice a1 n1 c1, .slice a2 n2 c2, .slice a3 n3 c3, .int .i64 em] 108)))
          have hk0 : (0 : Int) ≤ (j : Int) := by omega
          have hk1 : (j : Int) < (LE.length : Int) := by omega
          have xc := unhide HX _ (unhide FC)
          clear f0 f1 f2 f3 fa xb hb hfr hv2 hv3 HF
          go_wp2_with (go_at_call 48; (first | (refine (unhide H0 _ (unhide FC)).mono ?_; clear H0) | (refine (unhide H1 _ (unhide FC)).mono ?_; clear H1) | (refine (unhide H2 _ (unhide FC)).mono ?_; clear H2) | (refine (unhide H3 _ (unhide FC)).mono ?_; clear H3)); rintro e w' ⟨rfl, f'⟩; have FC := hide ((unhide FC).trans f'); have xc := unhide HX _ (unhide FC); clear f')
          go_roundw
          case rel => exact ⟨j + 1, by omega, by go_num, ((unhide FW).trans (unhide FA)).trans (unhide FC)⟩
          case measure => simp [intOf]; omega
        · have hk1 : ¬ (j : Int) < (LE.length : Int) := by omega
          have FW5 := hide hfr
          clear hb hfr
          go_wp2
          clear cb
          go_loopw [7] (fun i wr => ∃ j : Nat, j ≤ LN.length ∧ i = .int .i64 j ∧ Fr (fun _ => False) w wr (fun _ => False)) (fun i _ => LN.length - (intOf i).toNat)
          case atStart => exact ⟨0, Nat.zero_le _, rfl, unhide FW5⟩
          case round =>
            obtain ⟨j, hj, rfl, hfr⟩ := hrel
            have hb := (unhide HB).fr hfr
            have cb := fun i => cell_of_row wr _ i _ 65 (0, 0) hb.blk
            by_cases hlt : j < LN.length
            · obtain ⟨g, cc, hv, k0, k1, k2, k3, k4⟩ := ent_cells hb.rN hlt
              injection hv with hv1 hv2 hv3
              subst hv1
              obtain ⟨f0, f1, f2, f3⟩ := hb.fN _ (List.getElem_mem hlt)
              generalize LN[j] = e at *
              obtain ⟨el, ea, eb, ec, em⟩ := e
              simp only at k0 k1 k2 k3 k4 f0 f1 f2 f3
              obtain ⟨a0, n0, c0, rfl⟩ := f0.shape
              obtain ⟨a1, n1, c1, rfl⟩ := f1.shape
              obtain ⟨a2, n2, c2, rfl⟩ := f2.shape
              obtain ⟨a3, n3, c3, rfl⟩ := f3.shape
              have fa : Fr (fun _ => False) wr (wr.alloc (.cells #[.slice a0 n0 c0, .slice a1 n1 c1, .slice a2 n2 c2, .slice a3 n3 c3, .int .i64 em] 111)) (fun _ => False) := (Fr.refl _ _).alloc _
              have xb := heap_alloc_new wr (.cells #[.slice a0 n0 c0, .slice a1 n1 c1, .slice a2 n2 c2, .slice a3 n3 c3, .int .i64 em] 111)
              have HF := hide (fun (W : World) (hW : Fr (fun _ => False) (wr.alloc (.cells #[.slice a0 n0 c0, .slice a1 n1 c1, .slice a2 n2 c2, .slice a3 n3 c3, .int .i64 em] 111)) W (fun _ => False)) => And.intro (f0.fr (fa.trans hW)) (And.intro (f1.fr (fa.trans hW)) (And.intro (f2.fr (fa.trans hW)) (f3.fr (fa.trans hW)))))
              have HX := hide (fun (W : World) (hW : Fr (fun _ => False) (wr.alloc (.cells #[.slice a0 n0 c0, .slice a1 n1 c1, .slice a2 n2 c2, .slice a3 n3 c3, .int .i64 em] 111)) W (fun _ => False)) (i : Nat) => cell_of_row W _ i _ 111 (0, 0) ((hW.same wr.heap.size (by simp) (fun h => h)).trans xb))
              have H0 := hide (fun (W : World) (hW : Fr (fun _ => False) (wr.alloc (.cells #[.slice a0 n0 c0, .slice a1 n1 c1, .slice a2 n2 c2, .slice a3 n3 c3, .int .i64 em] 111)) W (fun _ => False)) => (fullInputs_any (unhide HF W hW).1))
              have H1 := hide (fun (W : World) (hW : Fr (fun _ => False) (wr.alloc (.cells #[.slice a0 n0 c0, .slice a1 n1 c1, .slice a2 n2 c2, .slice a3 n3 c3, .int .i64 em] 111)) W (fun _ => False)) => (fullInputs_any (unhide HF W hW).2.1))
              have H2 := hide (fun (W : World) (hW : Fr (fun _ => False) (wr.alloc (.cells #[.slice a0 n0 c0, .slice a1 n1 c1, .slice a2 n2 c2, .slice a3 n3 c3, .int .i64 em] 111)) W (fun _ => False)) => (fullInputs_any (unhide HF W hW).2.2.1))
              have H3 := hide (fun (W : World) (hW : Fr (fun _ => False) (wr.alloc (.cells #[.slice a0 n0 c0, .slice a1 n1 c1, .slice a2 n2 c2, .slice a3 n3 c3, .int .i64 em] 111)) W (fun _ => False)) => (fullInputs_any (unhide HF W hW).2.2.2))
              have FA := hide fa
              have FW := hide hfr
              have FC := hide (Fr.refl (fun _ => False) (wr.alloc (.cells #[.slice a0 n0 c0, .slice a1 n1 c1, .slice a2 n2 c2, .slice a3 n3 c3, .int .i64 em] 111)))
              have hk0 : (0 : Int) ≤ (j : Int) := by omega
              have hk1 : (j : Int) < (LN.length : Int) := by omega
              have xc := unhide HX _ (unhide FC)
              clear f0 f1 f2 f3 fa xb hb hfr hv2 hv3 HF
              go_wp2_with (go_at_call 49; (first | (refine (unhide H0 _ (unhide FC)).mono ?_; clear H0) | (refine (unhide H1 _ (unhide FC)).mono ?_; clear H1) | (refine (unhide H2 _ (unhide FC)).mono ?_; clear H2) | (refine (unhide H3 _ (unhide FC)).mono ?_; clear H3)); rintro e w' ⟨rfl, hw'⟩; rw [hw']; clear hw' w')
              go_roundw
              case rel => exact ⟨j + 1, by omega, by go_num, (unhide FW).trans (unhide FA)⟩
              case measure => simp [intOf]; omega
            · have hk1 : ¬ (j : Int) < (LN.length : Int) := by omega
              have FW7 := hide hfr
              clear hb hfr
              go_wp2
              go_ret
              exact ⟨rfl, unhide FW7⟩
end Go.Proofs.YtfmbebofllgmoaaGreatDoor
namespace Go.Proofs.YtfmbebofllgmoaaGreatDoor
open Go.RowKit

/-- Where a slice with elements lies. -/
def LiesIn (v : Value) (K : Nat → Prop) : Prop := ∀ q off n c, v = .slice (some ⟨q, off, none⟩) n c → 0 < n → K q
theorem LiesIn.mono {v : Value} {K K' : Nat → Prop} (h : LiesIn v K) (hk : ∀ q, K q → K' q) : LiesIn v K' := fun q off n c hv hn => hk q (h q off n c hv hn)
section
variable {w W : World} {v : Value} {m : Int} {K : Nat → Prop}
theorem FullI.keep (h : FullI w v m) (hl : LiesIn v K) (hk : ∀ q, K q → W.heap[q]? = w.heap[q]?) : FullI W v m := by
  obtain ⟨a, n, c, rfl, hn, hc⟩ := h
  refine ⟨a, n, c, rfl, hn, ?_⟩
  rcases Nat.eq_zero_or_pos n with h0 | h0
  · exact .inl h0
  rcases hc with h1 | ⟨q, off, rfl, hcell⟩
  · omega
  have hq := hk q (hl q off n c rfl h0)
  exact .inr ⟨q, off, rfl, fun i hi => by rw [cellOf_heap hq]; exact hcell i hi⟩
theorem FullE.keep (h : FullE w v m) (hl : LiesIn v K) (hk : ∀ q, K q → W.heap[q]? = w.heap[q]?) : FullE W v m := by
  obtain ⟨a, n, c, rfl, hn, hc⟩ := h
  refine ⟨a, n, c, rfl, hn, ?_⟩
  rcases Nat.eq_zero_or_pos n with h0 | h0
  · exact .inl h0
  rcases hc with h1 | ⟨q, off, rfl, hcell⟩
  · omega
  have hq := hk q (hl q off n c rfl h0)
  exact .inr ⟨q, off, rfl, fun i hi => by rw [cellOf_heap hq, cellOf_heap hq, cellOf_heap hq]; exact hcell i hi⟩
theorem FullN.keep (h : FullN w v m) (hl : LiesIn v K) (hk : ∀ q, K q → W.heap[q]? = w.heap[q]?) : FullN W v m := by
  obtain ⟨a, n, c, rfl, hn, hc⟩ := h
  refine ⟨a, n, c, rfl, hn, ?_⟩
  rcases Nat.eq_zero_or_pos n with h0 | h0
  · exact .inl h0
  rcases hc with h1 | ⟨q, off, rfl, hcell⟩
  · omega
  have hq := hk q (hl q off n c rfl h0)
  exact .inr ⟨q, off, rfl, fun i hi => by rw [cellOf_heap hq, cellOf_heap hq, cellOf_heap hq, cellOf_heap hq]; exact hcell i hi⟩
theorem own_lies : LiesIn v (own v) := fun q off n' c hv _ => by
  rw [hv]; rfl
end
/-- The Book, and where its lists lie. -/
structure BookK (w : World) (B bb : Nat) (n : Int) (vI vE vN : Value) (LI LE LN : List Ent) (K : Nat → Prop) : Prop where
  bk : BookIn w B bb n vI vE vN LI LE LN
  lI : ∀ e, e ∈ LI → LiesIn e.l K ∧ LiesIn e.a K ∧ LiesIn e.b K ∧ LiesIn e.c K
  lE : ∀ e, e ∈ LE → LiesIn e.l K ∧ LiesIn e.a K ∧ LiesIn e.b K ∧ LiesIn e.c K
  lN : ∀ e, e ∈ LN → LiesIn e.l K ∧ LiesIn e.a K ∧ LiesIn e.b K ∧ LiesIn e.c K
  apart : ∀ q, K q → q < w.heap.size ∧ q ≠ bb ∧ ¬ own vI q ∧ ¬ own vE q ∧ ¬ own vN q
theorem BookK.fr {w W : World} {B bb : Nat} {n : Int} {vI vE vN : Value} {LI LE LN : List Ent} {K : Nat → Prop} (h : BookK w B bb n vI vE vN LI LE LN K) (hf : Fr (fun _ => False) w W (fun _ => False)) : BookK W B bb n vI vE vN LI LE LN K :=
  ⟨h.bk.fr hf, h.lI, h.lE, h.lN, fun q hq => ⟨Nat.lt_of_lt_of_le (h.apart q hq).1 hf.size, (h.apart q hq).2⟩⟩
end Go.Proofs.YtfmbebofllgmoaaGreatDoor
namespace Go.Proofs.YtfmbebofllgmoaaGreatDoor
open Go.RowKit

theorem wpList_both {ops : Array Oper} {rest : List Oper} {o : Oper} {a : Act} {Q : Exit → Act → World → Prop} {w : World} {B t e size bytes : Nat} (E : Elem t e size bytes) (hs0 : 0 < size) (hs1 : bytes ≤ 200) {v : Value} {n m : Nat} {xs news : List Value} (hgd : o.guard = none) (sv xv : Operand)
    (ho : o.op = .call { callee := .builtin .append, args := #[sv, xv], argTypes := #[t, t] }) {ad : Addr} {cap : Nat} (hs : a.eval sv = v) (hx : a.eval xv = .slice (some ad) m cap) (hrow : w.ownsRow B e size v n xs) (hl : news.length = m * size)
    (hc : ∀ j u, news[j]? = some u → w.cell? (ad.add j) = some u) (h1 : ∀ u ∈ news, u.oneCell' = true) (hm : 0 < m) (hn : n + m ≤ 100000000000) (hB : B ≤ w.heap.size)
    (h : ∀ v' w', (∃ a c, v' = .slice a (n + m) c) → w'.ownsRow B e size v' (n + m) (xs ++ news) →
      ((∃ g cp, v = .slice (some ⟨g, 0, none⟩) n cp ∧ v' = .slice (some ⟨g, 0, none⟩) (n + m) cp ∧ n + m ≤ cp ∧ w.grownBy w' (some g)) ∨ (w.grownBy w' none ∧ ∀ q, own v' q → w.heap.size ≤ q)) → wpList Tryz.prog ops Q rest (a.put o.dst v') w') : wpList Tryz.prog ops Q (o :: rest) a w := by
  obtain ⟨i, z, hi, hz, hsz, hby, hzc⟩ := E.i
  have hmx : n + m ≤ maxLen := by simp only [maxLen]; omega
  have hbb : (n + m) * bytes ≤ 140737488355328 := Nat.le_trans (Nat.mul_le_mul hn hs1) (by omega)
  have hlen : xs.length = n * size := hrow.1
  have fresh : ∀ v' w', w'.ownsRow w.heap.size e size v' (n + m) (xs ++ news) → w.grownBy w' none → wpList Tryz.prog ops Q rest (a.put o.dst v') w' := fun v' w' r1 r2 =>
    h v' w' (row_shape r1) (ownsRow_low r1 hB) (.inr ⟨r2, fun q hq => (World.ownsRow.lt r1 q hq).1⟩)
  rcases hrow.2 with ⟨hv, h0⟩ | ⟨g, cp, cur, hv, hBg, hg, hcp, hcm, hcs, htk⟩
  · subst h0
    have hx0 : xs = [] := List.eq_nil_of_length_eq_zero (by rw [hlen]; simp)
    refine wpList_append_grows (P := Tryz.prog) w hgd sv xv t ho e i z size bytes E.u hi hz hsz hby hzc hs0 none 0 0 xs (by rw [hs, hv]) (fun _ => ⟨rfl, rfl⟩) (by rw [hx0]; simp) (fun b hb => by cases hb) ad m cap news hx hl hc h1 (by omega) hmx hbb fresh
  · by_cases hr : n + m ≤ cp
    · refine wpList_append_own_spare (P := Tryz.prog) w hgd sv xv t ho B e i size E.u hi hsz g n cp xs (by rw [hs, hv]) (hv ▸ hrow) ad m cap news hx hl hc h1 hr ?_
      intro w' r1 r2
      exact h _ w' ⟨_, _, rfl⟩ r1 (.inl ⟨g, cp, hv, rfl, hr, r2⟩)
    · refine wpList_append_grows (P := Tryz.prog) w hgd sv xv t ho e i z size bytes E.u hi hz hsz hby hzc hs0 (some ⟨g, 0, none⟩) n cp xs (by rw [hs, hv]) (fun h => by cases h) hlen (fun b hb j u hj => ?_) ad m cap news hx hl hc h1 (by omega) hmx hbb fresh
      cases hb
      obtain ⟨g2, c2, hv2, _, _, hcell⟩ := row_cell hrow (by
        have := (List.getElem?_eq_some_iff.1 hj).1
        rw [hlen] at this
        rcases Nat.eq_zero_or_pos n with h0 | h0
        · rw [h0] at this; simp at this
        · exact h0)
      rw [hv] at hv2
      cases hv2
      have hh := hcell j u hj
      rw [show Addr.add ⟨g, 0, none⟩ j = ⟨g, j, none⟩ by rw [addr_add, Nat.zero_add]]
      exact hh

end Go.Proofs.YtfmbebofllgmoaaGreatDoor
namespace Go.Proofs.YtfmbebofllgmoaaGreatDoor
open Go.RowKit

theorem Fr.widen {S S' T : Nat → Prop} {w w' : World} (h : Fr S w w' S') (hs : ∀ q, S q → T q) : Fr T w w' T :=
  ⟨h.os, h.tape, h.output, h.size, fun k hk hn => h.same k hk (fun e => hn (hs k e)), fun _ _ h => h⟩
theorem ty_one {w : World} {q : Nat} {a b : Array Value} {s t : Nat} (h1 : w.heap[q]? = some (.cells a s (0, 0))) (h2 : w.heap[q]? = some (.cells b t (0, 0))) : s = t := by
  rw [h1] at h2
  injection h2 with h2
  injection h2
theorem own_ty {w : World} {B e size n q t : Nat} {v : Value} {xs : List Value} {c : Array Value} (h : w.ownsRow B e size v n xs) (hq : w.heap[q]? = some (.cells c t (0, 0))) (ht : t ≠ e) : ¬ own v q := fun ho => by
  obtain ⟨cur, hc⟩ := row_d h ho
  exact ht (ty_one hq hc)
section
variable {w W : World} {B bb : Nat} {n n' : Int} {vI vE vN v' : Value} {LI LE LN : List Ent} {K K2 T : Nat → Prop} {e : Ent}
/-- The Book where blocks that it does not hang on have turned, and its count. -/
theorem BookK.mid (h : BookK w B bb n vI vE vN LI LE LN K) (hf : Fr T w W T) (hT : ∀ q, q < w.heap.size → T q → q = bb ∨ (¬ K q ∧ ¬ own vI q ∧ ¬ own vE q ∧ ¬ own vN q)) (hbb : W.heap[bb]? = some (.cells #[.int .i64 n', vI, vE, vN] 65)) : BookK W B bb n' vI vE vN LI LE LN K := by
  have rI : ∀ q, own vI q → W.heap[q]? = w.heap[q]? := fun q hq => hf.same q (World.ownsRow.lt h.bk.rI q hq).2 (fun ht => by
    rcases hT q (World.ownsRow.lt h.bk.rI q hq).2 ht with rfl | hh
    · exact own_ty h.bk.rI h.bk.blk (by decide) hq
    · exact hh.2.1 hq)
  have rE : ∀ q, own vE q → W.heap[q]? = w.heap[q]? := fun q hq => hf.same q (World.ownsRow.lt h.bk.rE q hq).2 (fun ht => by
    rcases hT q (World.ownsRow.lt h.bk.rE q hq).2 ht with rfl | hh
    · exact own_ty h.bk.rE h.bk.blk (by decide) hq
    · exact hh.2.2.1 hq)
  have rN : ∀ q, own vN q → W.heap[q]? = w.heap[q]? := fun q hq => hf.same q (World.ownsRow.lt h.bk.rN q hq).2 (fun ht => by
    rcases hT q (World.ownsRow.lt h.bk.rN q hq).2 ht with rfl | hh
    · exact own_ty h.bk.rN h.bk.blk (by decide) hq
    · exact hh.2.2.2 hq)
  have hk : ∀ q, K q → W.heap[q]? = w.heap[q]? := fun q hq => hf.same q (h.apart q hq).1 (fun ht => by
    rcases hT q (h.apart q hq).1 ht with e | hh
    · exact (h.apart q hq).2.1 e
    · exact hh.1 hq)
  refine ⟨⟨hbb, ownsRow_of_block h.bk.rI rI, ownsRow_of_block h.bk.rE rE, ownsRow_of_block h.bk.rN rN, fun e he => ?_, fun e he => ?_, fun e he => ?_⟩, h.lI, h.lE, h.lN, fun q hq => ⟨Nat.lt_of_lt_of_le (h.apart q hq).1 hf.size, (h.apart q hq).2⟩⟩
  · obtain ⟨f1, f2, f3, f4⟩ := h.bk.fI e he
    obtain ⟨l1, l2, l3, l4⟩ := h.lI e he
    exact ⟨f1.keep l1 hk, f2.keep l2 hk, f3.keep l3 hk, f4.keep l4 hk⟩
  · obtain ⟨f1, f2, f3, f4⟩ := h.bk.fE e he
    obtain ⟨l1, l2, l3, l4⟩ := h.lE e he
    exact ⟨f1.keep l1 hk, f2.keep l2 hk, f3.keep l3 hk, f4.keep l4 hk⟩
  · obtain ⟨f1, f2, f3, f4⟩ := h.bk.fN e he
    obtain ⟨l1, l2, l3, l4⟩ := h.lN e he
    exact ⟨f1.keep l1 hk, f2.keep l2 hk, f3.keep l3 hk, f4.keep l4 hk⟩
/-- One more list of kind E. -/
theorem BookK.addE (h : BookK w B bb n vI vE vN LI LE LN K) (hfull : FullE w e.l e.m ∧ FullE w e.a e.m ∧ FullE w e.b e.m ∧ FullE w e.c e.m) (hl : LiesIn e.l K2 ∧ LiesIn e.a K2 ∧ LiesIn e.b K2 ∧ LiesIn e.c K2) (hk2 : ∀ q, K2 q → ∃ cur, w.heap[q]? = some (.cells cur 72 (0, 0)))
    (hr : W.ownsRow B 108 5 v' (LE.length + 1) (flat5 LE ++ [e.l, e.a, e.b, e.c, .int .i64 e.m])) (hf : Fr (own vE) w W (own v')) : BookK (W.setCell ⟨bb, 2, none⟩ v') B bb n vI v' vN LI (LE ++ [e]) LN (fun q => K q ∨ K2 q) := by
  have hbl := (Array.getElem?_eq_some_iff.1 h.bk.blk).1
  have hbn : ¬ own vE bb := own_ty h.bk.rE h.bk.blk (by decide)
  have hbW : W.heap[bb]? = some (.cells #[.int .i64 n, vI, vE, vN] 65) := (hf.same bb hbl hbn).trans h.bk.blk
  have hsz : (W.setCell ⟨bb, 2, none⟩ v').heap.size = W.heap.size := by simp [World.setCell]
  have kq : ∀ q, q ≠ bb → (W.setCell ⟨bb, 2, none⟩ v').heap[q]? = W.heap[q]? := fun q hq => Below.heap_setCell _ _ _ _ hq
  have keepq : ∀ q, q < w.heap.size → ¬ own vE q → q ≠ bb → (W.setCell ⟨bb, 2, none⟩ v').heap[q]? = w.heap[q]? := fun q h1 h2 h3 => (kq q h3).trans (hf.same q h1 h2)
  have rI : ∀ q, own vI q → (W.setCell ⟨bb, 2, none⟩ v').heap[q]? = w.heap[q]? := fun q hq => by
    obtain ⟨cur, hc⟩ := row_d h.bk.rI hq
    exact keepq q (World.ownsRow.lt h.bk.rI q hq).2 (own_ty h.bk.rE hc (by decide)) (fun e => own_ty h.bk.rI h.bk.blk (by decide) (e ▸ hq))
  have rN : ∀ q, own vN q → (W.setCell ⟨bb, 2, none⟩ v').heap[q]? = w.heap[q]? := fun q hq => by
    obtain ⟨cur, hc⟩ := row_d h.bk.rN hq
    exact keepq q (World.ownsRow.lt h.bk.rN q hq).2 (own_ty h.bk.rE hc (by decide)) (fun e => own_ty h.bk.rN h.bk.blk (by decide) (e ▸ hq))
  have hrow : (W.setCell ⟨bb, 2, none⟩ v').ownsRow B 108 5 v' (LE ++ [e]).length (flat5 (LE ++ [e])) := by
    rw [flat5_append, List.length_append]
    exact ownsRow_of_block hr (fun q hq => kq q (fun e => own_ty hr hbW (by decide) (e ▸ hq)))
  have hk : ∀ q, K q → (W.setCell ⟨bb, 2, none⟩ v').heap[q]? = w.heap[q]? := fun q hq => keepq q (h.apart q hq).1 (h.apart q hq).2.2.2.1 (h.apart q hq).2.1
  have a2 : ∀ q, K2 q → q < w.heap.size ∧ q ≠ bb ∧ ¬ own vI q ∧ ¬ own vE q ∧ ¬ own vN q := fun q hq => by
    obtain ⟨cur, hc⟩ := hk2 q hq
    exact ⟨(Array.getElem?_eq_some_iff.1 hc).1, fun e => absurd (ty_one (e ▸ hc) h.bk.blk) (by decide), own_ty h.bk.rI hc (by decide), own_ty h.bk.rE hc (by decide), own_ty h.bk.rN hc (by decide)⟩
  have hk2' : ∀ q, K2 q → (W.setCell ⟨bb, 2, none⟩ v').heap[q]? = w.heap[q]? := fun q hq => keepq q (a2 q hq).1 (a2 q hq).2.2.2.1 (a2 q hq).2.1
  have hset := setCell_row W bb 2 _ 65 v' hbW
  have fold : ∀ {P : World → Value → Int → Prop} {L : List Ent}, (∀ v m, P w v m → LiesIn v K → P (W.setCell ⟨bb, 2, none⟩ v') v m) → (∀ e, e ∈ L → P w e.l e.m ∧ P w e.a e.m ∧ P w e.b e.m ∧ P w e.c e.m) → (∀ e, e ∈ L → LiesIn e.l K ∧ LiesIn e.a K ∧ LiesIn e.b K ∧ LiesIn e.c K) → ∀ e, e ∈ L → P (W.setCell ⟨bb, 2, none⟩ v') e.l e.m ∧ P (W.setCell ⟨bb, 2, none⟩ v') e.a e.m ∧ P (W.setCell ⟨bb, 2, none⟩ v') e.b e.m ∧ P (W.setCell ⟨bb, 2, none⟩ v') e.c e.m := fun hp hf hl e he =>
    ⟨hp _ _ (hf e he).1 (hl e he).1, hp _ _ (hf e he).2.1 (hl e he).2.1, hp _ _ (hf e he).2.2.1 (hl e he).2.2.1, hp _ _ (hf e he).2.2.2 (hl e he).2.2.2⟩
  have gI := fold (P := FullI) (fun v m hp hl => hp.keep hl hk) h.bk.fI h.lI
  have gE := fold (P := FullE) (fun v m hp hl => hp.keep hl hk) h.bk.fE h.lE
  have gN := fold (P := FullN) (fun v m hp hl => hp.keep hl hk) h.bk.fN h.lN
  have lift : ∀ {L : List Ent}, (∀ e, e ∈ L → LiesIn e.l K ∧ LiesIn e.a K ∧ LiesIn e.b K ∧ LiesIn e.c K) → ∀ e, e ∈ L → LiesIn e.l (fun q => K q ∨ K2 q) ∧ LiesIn e.a (fun q => K q ∨ K2 q) ∧ LiesIn e.b (fun q => K q ∨ K2 q) ∧ LiesIn e.c (fun q => K q ∨ K2 q) := fun hl e he =>
    ⟨(hl e he).1.mono fun _ => .inl, (hl e he).2.1.mono fun _ => .inl, (hl e he).2.2.1.mono fun _ => .inl, (hl e he).2.2.2.mono fun _ => .inl⟩
  have gE' : ∀ x, x ∈ LE ++ [e] → FullE (W.setCell ⟨bb, 2, none⟩ v') x.l x.m ∧ FullE (W.setCell ⟨bb, 2, none⟩ v') x.a x.m ∧ FullE (W.setCell ⟨bb, 2, none⟩ v') x.b x.m ∧ FullE (W.setCell ⟨bb, 2, none⟩ v') x.c x.m := fun x hx => by
    rcases List.mem_append.1 hx with hx | hx
    · exact gE x hx
    · rw [List.mem_singleton] at hx
      subst hx
      exact ⟨hfull.1.keep hl.1 hk2', hfull.2.1.keep hl.2.1 hk2', hfull.2.2.1.keep hl.2.2.1 hk2', hfull.2.2.2.keep hl.2.2.2 hk2'⟩
  have lE' : ∀ x, x ∈ LE ++ [e] → LiesIn x.l (fun q => K q ∨ K2 q) ∧ LiesIn x.a (fun q => K q ∨ K2 q) ∧ LiesIn x.b (fun q => K q ∨ K2 q) ∧ LiesIn x.c (fun q => K q ∨ K2 q) := fun x hx => by
    rcases List.mem_append.1 hx with hx | hx
    · exact lift h.lE x hx
    · rw [List.mem_singleton] at hx
      subst hx
      exact ⟨hl.1.mono fun _ => .inr, hl.2.1.mono fun _ => .inr, hl.2.2.1.mono fun _ => .inr, hl.2.2.2.mono fun _ => .inr⟩
  have nv : ∀ q, q < w.heap.size → ¬ own vE q → ¬ own v' q := fun q hq hn hv => hn (hf.old q hq hv)
  refine ⟨⟨hset, ownsRow_of_block h.bk.rI rI, hrow, ownsRow_of_block h.bk.rN rN, gI, gE', gN⟩, lift h.lI, lE', lift h.lN, fun q hq => ?_⟩
  rw [hsz]
  rcases hq with hq | hq
  · obtain ⟨x0, x1, x2, x3, x4⟩ := h.apart q hq
    exact ⟨Nat.lt_of_lt_of_le x0 hf.size, x1, x2, nv q x0 x3, x4⟩
  · obtain ⟨x0, x1, x2, x3, x4⟩ := a2 q hq
    exact ⟨Nat.lt_of_lt_of_le x0 hf.size, x1, x2, nv q x0 x3, x4⟩
end
theorem step_grown {ops : Array Oper} {o : Oper} {a : Act} {K : Act → World → Prop} {Q : Exit → Act → World → Prop} {E' : Prop} {w : World} {B t e size bytes d : Nat} (hd : o.dst = some d) (E : Elem t e size bytes) (hs0 : 0 < size) (hs1 : bytes ≤ 140) {v : Value} {n m : Nat} {xs news : List Value} (hgd : o.guard = none) (sv xv : Operand)
    (ho : o.op = .call { callee := .builtin .append, args := #[sv, xv], argTypes := #[t, t] }) {ad : Addr} {cap : Nat} (hs : a.eval sv = v) (hx : a.eval xv = .slice (some ad) m cap) (hrow : w.ownsRow B e size v n xs) (hl : news.length = m * size)
    (hc : ∀ j u, news[j]? = some u → w.cell? (ad.add j) = some u) (h1 : ∀ u ∈ news, u.oneCell' = true) (hm : 0 < m) (hn : n + m ≤ 1000000000000) (hB : B ≤ w.heap.size)
    (h : ∀ v' w', w'.ownsRow B e size v' (n + m) (xs ++ news) → Fr (own v) w w' (own v') → (∃ a c, v' = .slice a (n + m) c) → K ⟨a.tmps.setIfInBounds d v', a.defers⟩ w') : if Region.wanted o (yielded ops a.tmps) = true then Oper.wp Tryz.prog o a w K Q else E' := by
  obtain ⟨i, z, hi, hz, hsz, hby, hzc⟩ := E.i
  have hmx : n + m ≤ maxLen := by simp only [maxLen]; omega
  have hbb : (n + m) * bytes ≤ 140737488355328 := Nat.le_trans (Nat.mul_le_mul hn hs1) (by omega)
  refine step_append_lies _ hgd sv xv t ho B e i z size bytes E.u hi hz hsz hby hzc hs0 v n xs hs hrow ad m cap news hx hl hc h1 hm hmx hbb hB w.heap.size rfl ?_
  intro g cp w' h1 h2 h3 h4
  have hh := h _ w' h1 (grow_fr h2 h3) ⟨_, _, rfl⟩
  rw [hd]
  exact hh
end Go.Proofs.YtfmbebofllgmoaaGreatDoor
namespace Go.Proofs.YtfmbebofllgmoaaGreatDoor
open Go.RowKit
attribute [local go_sem ↓] Go.wp_at_zero Go.wp_at_succ

theorem elemA : Elem 178 210 3 24 := elem_of _ _ _ _ (.agg #[.int .i64 0, .int .i64 0, .int .i64 0]) Tryz.underlying178 (by kernel_rfl) rfl
theorem Fr.more {S : Nat → Prop} {w w' w'' : World} {v v' : Value} (h : Fr S w w' S) (hg : Fr (own v) w' w'' (own v')) (hv : ∀ q, own v q → w.heap.size ≤ q) : Fr S w w'' S :=
  ⟨hg.os.trans h.os, hg.tape.trans h.tape, hg.output.trans h.output, Nat.le_trans h.size hg.size, fun k hk hn => (hg.same k (Nat.lt_of_lt_of_le hk h.size) (fun e => by have := hv k e; omega)).trans (h.same k hk hn), fun _ _ h => h⟩
/-- An armed timer's cells. -/
theorem at_cells {w : World} {B : Nat} {v : Value} {A : List AT} (h : w.ownsRow B 210 3 v A.length (flatA A)) {i : Nat} {p : AT} (hi : A[i]? = some p) : ∃ g c, v = .slice (some ⟨g, 0, none⟩) A.length c ∧ w.cell? ⟨g, i * 3, none⟩ = some (.int .i64 p.1.2.2.2) ∧ w.cell? ⟨g, i * 3 + 1, none⟩ = some (.int .i64 p.1.2.1) ∧ w.cell? ⟨g, i * 3 + 2, none⟩ = some (.int .i64 p.2) := by
  obtain ⟨g, c, hv, _, _, hc⟩ := row_cell h (by have := (List.getElem?_eq_some_iff.1 hi).1; omega)
  obtain ⟨g0, g1, g2⟩ := flatA_get A i p hi
  exact ⟨g, c, hv, hc _ _ g0, hc _ _ g1, hc _ _ g2⟩

section
variable {σ : Type} {SQ : (Nat → Value) → (Nat → Prop) → World → σ → Prop} {B : Nat} {S T : Nat → Prop} {w : World} {b : Nat} {pv : Nat → Value} {vt va : Value} {s : PS} {A : List AT} {tn sq : Int} {x : σ}

/-- The loop in memory, its armed timers laid anew. -/
def LPostA (SQ : (Nat → Value) → (Nat → Prop) → World → σ → Prop) (B : Nat) (S : Nat → Prop) (w : World) (b : Nat) (pv : Nat → Value) (vt : Value) (T : Nat → Prop) (tn sq : Int) (s : PS) (A : List AT) (x : σ) (w' : World) : Prop :=
  ∃ S' va', LQ SQ B S' w' b pv vt va' T s A tn sq x ∧ Fr S w w' S'
def cutA (A : List AT) (z : Int) : List AT := A.filter fun p => decide (p.1.2.2.2 ≠ z)
theorem cutA_take (A : List AT) (z : Int) (k : Nat) (p : AT) (h : A[k]? = some p) : cutA (A.take (k + 1)) z = cutA (A.take k) z ++ (if p.1.2.2.2 = z then [] else [p]) := by
  unfold cutA
  rw [List.take_add_one, h, List.filter_append]
  by_cases e : p.1.2.2.2 = z <;> simp [e]
theorem cutA_len (A : List AT) (z : Int) : (cutA A z).length ≤ A.length := List.length_filter_le _ _

set_option maxHeartbeats 1000000 in
theorem cancelQ_any (L : SQLaw SQ B) (h : LQ SQ B S w b pv vt va T s A tn sq x) (z : Int) (hz : 0 ≤ z) (ha : s.armings ≤ 5000) :
    Calls Tryz.prog 140 #[.pointer (some ⟨b, 0, none⟩), .int .i64 z] w fun e w' => e = .returned (.tuple #[]) ∧ LPostA SQ B S w b pv vt T tn sq { s with tim := upd s.tim z.toNat (false, (s.tim z.toNat).2) } (cutA A z) x w' := by
  obtain ⟨aa, ca, rfl⟩ := row_shape h.arow
  have hlen : A.length ≤ 5000 := by have := h.rel.len; omega
  have hb := h.blt
  have H := hide h
  have HB := hide h.below
  clear h
  go_enter Tryz.func140, Tryz.ntmps140
  go_wp2
  go_loopw [4, 5] (fun l i wr => ∃ k : Nat, k ≤ A.length ∧ i = .int .i64 k ∧ ∃ la lc, l = .slice la (cutA (A.take k) z).length lc ∧ Hid (wr.ownsRow w.heap.size 210 3 (.slice la (cutA (A.take k) z).length lc) (cutA (A.take k) z).length (flatA (cutA (A.take k) z)) ∧ Fr (fun _ => False) w wr (fun _ => False))) (fun _ i _ => A.length - (intOf i).toNat)
  case atStart => exact ⟨0, Nat.zero_le _, rfl, none, 0, rfl, World.ownsRow_nil _ _ _ _, Fr.refl _ _⟩
  case round =>
    obtain ⟨k, hk, rfl, la, lc, rfl, hh⟩ := hrel
    have hbr : b < wr.heap.size := Nat.lt_of_lt_of_le hb (unhide hh).2.size
    have hr := (unhide H).fr L (unhide hh).2
    have c16 := (hr.cell 16 (by omega)).trans (by rw [limg_armed])
    have z16 := hr.free 16 (by omega)
    by_cases hlt : k < A.length
    · obtain ⟨p, hp⟩ : ∃ p, A[k]? = some p := ⟨_, List.getElem?_eq_getElem hlt⟩
      obtain ⟨g, cg, hv, q0, q1, q2⟩ := at_cells hr.arow hp
      injection hv with hv hv2 hv3
      subst hv
      clear hv2 hv3
      have hk0 : (0 : Int) ≤ (k : Int) := by omega
      have hk1 : (k : Int) < (A.length : Int) := by omega
      have hgl := World.block_lt_of_cell? _ _ q0
      have htk := cutA_take A z k p hp
      have hle : (cutA (A.take k) z).length ≤ 5000 := by have := cutA_len (A.take k) z; rw [List.length_take] at this; omega
      have HTK := hide htk
      have HH := hide (unhide hh)
      clear hr hh htk hp
      by_cases e : p.1.2.2.2 = z
      · have e' : (p.1.2.2.2 != z) = false := by simp [e]
        go_wp2
        go_roundw
        case rel =>
          refine ⟨k + 1, by omega, by go_num, la, lc, ?_⟩
          rw [unhide HTK, if_pos e, List.append_nil]
          exact ⟨rfl, HH⟩
        case measure => simp [intOf]; omega
      · have e' : (p.1.2.2.2 != z) = true := by simp [e]
        have nb := heap_alloc_new wr (.cells #[.int .i64 p.1.2.2.2, .int .i64 p.1.2.1, .int .i64 p.2] 210)
        have NB := hide nb
        have RA := hide (World.ownsRow.alloc (unhide HH).1 (.cells #[.int .i64 p.1.2.2.2, .int .i64 p.1.2.1, .int .i64 p.2] 210))
        have hwz : w.heap.size ≤ (wr.alloc (.cells #[.int .i64 p.1.2.2.2, .int .i64 p.1.2.1, .int .i64 p.2] 210)).heap.size := by have := (unhide HH).2.size; simp; omega
        clear nb
        go_wp2_with (at_builtin; refine wpList_grow elemA (by omega) (by omega) (B := w.heap.size) (n := (cutA (A.take k) z).length) (m := 1) (xs := flatA (cutA (A.take k) z)) (news := [.int .i64 p.1.2.2.2, .int .i64 p.1.2.1, .int .i64 p.2]) rfl (.tmp 25) (.tmp 33) rfl (ad := ⟨wr.heap.size, 0, none⟩) (cap := 1) rfl rfl (unhide RA) rfl (World.news_of_block (unhide NB)) (by simp [Value.oneCell']) (by omega) (by omega) hwz ?_; intro v3 w3 o3 f3 sh3; obtain ⟨av, cv, rfl⟩ := sh3; have O3 := hide o3; have F3 := hide f3; clear o3 f3)
        go_roundw
        case rel =>
          refine ⟨k + 1, by omega, by go_num, av, cv, ?_⟩
          rw [unhide HTK, if_neg e, List.length_append, flatA_append]
          exact ⟨rfl, unhide O3, Fr.more ((unhide HH).2.alloc _) (unhide F3) (fun q hq => (World.ownsRow.lt (unhide HH).1 q hq).1)⟩
        case measure => simp [intOf]; omega
    · have hkl : k = A.length := by omega
      subst hkl
      have hk1 : ¬ (A.length : Int) < (A.length : Int) := by omega
      rw [List.take_length] at hh ⊢
      have hwf := (unhide hh).2
      have hfin := (unhide H).setArmed L (A' := cutA A z) (s' := { s with tim := upd s.tim z.toNat (false, (s.tim z.toNat).2) }) (rowLow (unhide hh).1 (unhide HB)) (w1 := wr) ⟨hwf.os, hwf.tape, hwf.output, hwf.size, fun k hk _ => hwf.same k hk (fun h => h), fun q hq hv => absurd (World.ownsRow.lt (unhide hh).1 q hv).1 (by omega)⟩ ((unhide H).rel.cancel z hz) rfl rfl rfl rfl rfl rfl rfl
      have HF := hide hfin
      clear hr hh hfin hwf
      go_wp2
      go_end0
      exact ⟨rfl, _, _, (unhide HF).1, (unhide HF).2⟩
end
end Go.Proofs.YtfmbebofllgmoaaGreatDoor
namespace Go.Proofs.YtfmbebofllgmoaaGreatDoor
open Go.RowKit
attribute [local go_sem ↓] Go.wp_at_zero Go.wp_at_succ
section
variable {σ : Type} {SQ : (Nat → Value) → (Nat → Prop) → World → σ → Prop} {B : Nat} {S T : Nat → Prop} {w : World} {b : Nat} {pv : Nat → Value} {vt va : Value} {s : PS} {A : List AT} {tn sq : Int} {x : σ}
set_option maxHeartbeats 2000000 in
theorem armQ_any (L : SQLaw SQ B) (h : LQ SQ B S w b pv vt va T s A tn sq x) (z v : Int) (hz : 0 ≤ z) (hz8 : z < 8) (ha : s.armings ≤ 5000) (hc : 0 ≤ s.clock ∧ s.clock ≤ 1099511627776) :
    Calls Tryz.prog 139 #[.pointer (some ⟨b, 0, none⟩), .int .i64 z, .int .i64 v] w fun e w' => e = .returned (.tuple #[]) ∧ LPostA SQ B S w b pv vt T tn sq { s with armings := s.armings + 1, tim := upd s.tim z.toNat (true, s.clock + min (max v 0) (1099511627776 - s.clock), s.armings + 1, z) } (cutA A z ++ [((true, s.clock + min (max v 0) (1099511627776 - s.clock), s.armings + 1, z), tn)]) x w' := by
  obtain ⟨c0, c1⟩ := hc
  have hrel := h.rel.arm z (s.clock + min (max v 0) (1099511627776 - s.clock)) hz hz8
  have hlen : (cutA A z).length ≤ 5000 := by have := h.rel.len; have := cutA_len A z; omega
  obtain ⟨at_, hat⟩ : ∃ at_, s.clock + min (max v 0) (1099511627776 - s.clock) = at_ := ⟨_, rfl⟩
  rw [hat] at hrel ⊢
  have HAT := hide hat
  have HR := hide hrel
  have HC := hide (cancelQ_any L h z hz ha)
  clear h hrel hat
  go_enter Tryz.func139, Tryz.ntmps139
  go_wp2_with fail
  go_at_call 140
  refine (unhide HC).mono ?_
  rintro e w1 ⟨rfl, S1, va1, h1, f1⟩
  obtain ⟨aa, ca, rfl⟩ := row_shape h1.arow
  have k14 := (h1.cell 14 (by omega)).trans (by rw [limg_clock])
  have k15 := (h1.cell 15 (by omega)).trans (by rw [limg_turn])
  have k16 := (h1.cell 16 (by omega)).trans (by rw [limg_armed])
  have z16 := h1.free 16 (by omega)
  have hb := h1.blt
  have H1 := hide h1
  have F1 := hide f1
  clear h1 f1 HC
  have kq : ∀ o, (w1.alloc o).drew.cell? ⟨b, 15, none⟩ = some (.int .i64 tn) := fun o => (((unhide H1).fr L ((Fr.refl _ _).alloc o).drew).cell 15 (by omega)).trans (by rw [limg_turn])
  have kq16 : ∀ o, (w1.alloc o).drew.cell? ⟨b, 16, none⟩ = some (.slice aa (cutA A z).length ca) := fun o => (((unhide H1).fr L ((Fr.refl _ _).alloc o).drew).cell 16 (by omega)).trans (by rw [limg_armed])
  by_cases hlt : v < 1099511627776 - s.clock
  · have e1 : s.clock + max v 0 = at_ := by have := unhide HAT; omega
    go_wp2
    clear e1
    refine wp_region_held_drew (S := fun w' => w'.cell? ⟨b, 15, none⟩ = some (.int .i64 tn)) (by kernel_rfl) ?_ (fun hHeld => ?_)
    · exact k15
    refine wpAnyH_take (i := 0) (oi := { dst := some 24, op := Op.move (Operand.tmp 0), type := 177, pos := "run.go:202", after := #[], guard := none }) (v := ?_) rfl (by kernel_rfl) (by kernel_rfl) (by kernel_rfl) (fun _ _ _ h => h) (Or.inl ⟨by rfl, ?_⟩) (by assumption) ?_
    rotate_left
    · intro w hSw; (try dsimp only at hSw); go_simp; try with_reducible rfl
    simp only [Act.put, List.setIfInBounds_toArray, List.set_cons_zero, List.set_cons_succ]
    refine wpAnyH_take (i := 1) (oi := { dst := some 25, op := Op.move (Operand.tmp 0), type := 177, pos := "run.go:202", after := #[], guard := none }) (v := ?_) rfl (by kernel_rfl) (by kernel_rfl) (by kernel_rfl) (fun _ _ _ h => h) (Or.inl ⟨by rfl, ?_⟩) (by assumption) ?_
    rotate_left
    · intro w hSw; (try dsimp only at hSw); go_simp; try with_reducible rfl
    simp only [Act.put, List.setIfInBounds_toArray, List.set_cons_zero, List.set_cons_succ]
    refine wpAnyH_take (i := 2) (oi := { dst := some 26, op := Op.nilCheck (Operand.tmp 25), type := 0, pos := "run.go:202", after := #[{ on := 1, ground := Ground.data }], guard := none }) (v := ?_) rfl (by kernel_rfl) (by kernel_rfl) (by kernel_rfl) (fun _ _ _ h => h) (Or.inl ⟨by rfl, ?_⟩) (by assumption) ?_
    rotate_left
    · intro w hSw; (try dsimp only at hSw); go_simp; try with_reducible rfl
    simp only [Act.put, List.setIfInBounds_toArray, List.set_cons_zero, List.set_cons_succ]
    refine wpAnyH_take (i := 3) (oi := { dst := some 27, op := Op.fieldAddr 180 (Operand.tmp 26) 8, type := 0, pos := "run.go:202", after := #[{ on := 2, ground := Ground.data }], guard := none }) (v := ?_) rfl (by kernel_rfl) (by kernel_rfl) (by kernel_rfl) (fun _ _ _ h => h) (Or.inl ⟨by rfl, ?_⟩) (by assumption) ?_
    rotate_left
    · intro w hSw; (try dsimp only at hSw); go_simp; try with_reducible rfl
    simp only [Act.put, List.setIfInBounds_toArray, List.set_cons_zero, List.set_cons_succ]
    refine wpAnyH_take (i := 5) (oi := { dst := some 29, op := Op.move (Operand.tmp 1), type := 3, pos := "run.go:202", after := #[], guard := none }) (v := ?_) rfl (by kernel_rfl) (by kernel_rfl) (by kernel_rfl) (fun _ _ _ h => h) (Or.inl ⟨by rfl, ?_⟩) (by assumption) ?_
    rotate_left
    · intro w hSw; (try dsimp only at hSw); go_simp; try with_reducible rfl
    simp only [Act.put, List.setIfInBounds_toArray, List.set_cons_zero, List.set_cons_succ]
    refine wpAnyH_take (i := 6) (oi := { dst := some 30, op := Op.move (Operand.tmp 6), type := 3, pos := "run.go:202", after := #[], guard := none }) (v := ?_) rfl (by kernel_rfl) (by kernel_rfl) (by kernel_rfl) (fun _ _ _ h => h) (Or.inl ⟨by rfl, ?_⟩) (by assumption) ?_
    rotate_left
    · intro w hSw; (try dsimp only at hSw); go_simp; try with_reducible rfl
    simp only [Act.put, List.setIfInBounds_toArray, List.set_cons_zero, List.set_cons_succ]
    refine wpAnyH_take (i := 7) (oi := { dst := some 31, op := Op.move (Operand.tmp 0), type := 177, pos := "run.go:202", after := #[], guard := none }) (v := ?_) rfl (by kernel_rfl) (by kernel_rfl) (by kernel_rfl) (fun _ _ _ h => h) (Or.inl ⟨by rfl, ?_⟩) (by assumption) ?_
    rotate_left
    · intro w hSw; (try dsimp only at hSw); go_simp; try with_reducible rfl
    simp only [Act.put, List.setIfInBounds_toArray, List.set_cons_zero, List.set_cons_succ]
    refine wpAnyH_take (i := 8) (oi := { dst := some 32, op := Op.nilCheck (Operand.tmp 31), type := 0, pos := "run.go:202", after := #[{ on := 7, ground := Ground.data }], guard := none }) (v := ?_) rfl (by kernel_rfl) (by kernel_rfl) (by kernel_rfl) (fun _ _ _ h => h) (Or.inl ⟨by rfl, ?_⟩) (by assumption) ?_
    rotate_left
    · intro w hSw; (try dsimp only at hSw); go_simp; try with_reducible rfl
    simp only [Act.put, List.setIfInBounds_toArray, List.set_cons_zero, List.set_cons_succ]
    refine wpAnyH_take (i := 9) (oi := { dst := some 33, op := Op.fieldAddr 180 (Operand.tmp 32) 7, type := 0, pos := "run.go:202", after := #[{ on := 8, ground := Ground.data }], guard := none }) (v := ?_) rfl (by kernel_rfl) (by kernel_rfl) (by kernel_rfl) (fun _ _ _ h => h) (Or.inl ⟨by rfl, ?_⟩) (by assumption) ?_
    rotate_left
    · intro w hSw; (try dsimp only at hSw); go_simp; try with_reducible rfl
    simp only [Act.put, List.setIfInBounds_toArray, List.set_cons_zero, List.set_cons_succ]
    refine wpAnyH_take (i := 10) (oi := { dst := some 34, op := Op.load 3 (Operand.tmp 33), type := 3, pos := "run.go:202", after := #[{ on := 9, ground := Ground.data }], guard := none }) (v := ?_) rfl (by kernel_rfl) (by kernel_rfl) (by kernel_rfl) (fun _ _ _ h => h) (Or.inl ⟨by rfl, ?_⟩) (by assumption) ?_
    rotate_left
    · intro w hSw; (try dsimp only at hSw); go_simp; try with_reducible rfl
    simp only [Act.put, List.setIfInBounds_toArray, List.set_cons_zero, List.set_cons_succ]
    refine wpAnyH_take (i := 11) (oi := { dst := some 35, op := Op.build 210 #[(0, Operand.tmp 29), (1, Operand.tmp 30), (2, Operand.tmp 34)], type := 210, pos := "run.go:202", after := #[{ on := 5, ground := Ground.data }, { on := 6, ground := Ground.data }, { on := 10, ground := Ground.data }], guard := none }) (v := ?_) rfl (by kernel_rfl) (by kernel_rfl) (by kernel_rfl) (fun _ _ _ h => h) (Or.inl ⟨by rfl, ?_⟩) (by assumption) ?_
    rotate_left
    · intro w hSw; (try dsimp only at hSw); go_simp; try with_reducible rfl
    simp only [Act.put, List.setIfInBounds_toArray, List.set_cons_zero, List.set_cons_succ]
    refine wpAnyH_ready (rs := [4, 12]) (by kernel_rfl) (by simp) ?_
    refine AllReadyH.cons (o := { dst := some 28, op := Op.load 178 (Operand.tmp 27), type := 178, pos := "run.go:202", after := #[{ on := 3, ground := Ground.data }], guard := none }) rfl (fun K' hK' => ?_) (AllReadyH.cons (o := { dst := some 36, op := Op.buildSlice 178 1 #[(0, Operand.tmp 35)], type := 178, pos := "run.go:202", after := #[{ on := 11, ground := Ground.data }], guard := none }) rfl (fun K' hK' => ?_) AllReadyH.nil)
    · go_simp
      refine hK'.out _ _ ?_ (fun hHeld => ?_)
      · exact k15
      clear hK' K'
      try simp only [Act.put, List.setIfInBounds_toArray, List.set_cons_zero, List.set_cons_succ]
      refine wpAnyH_ready (rs := [12]) (by kernel_rfl) (by simp) ?_
      refine AllReadyH.cons (o := { dst := some 36, op := Op.buildSlice 178 1 #[(0, Operand.tmp 35)], type := 178, pos := "run.go:202", after := #[{ on := 11, ground := Ground.data }], guard := none }) rfl (fun K' hK' => ?_) AllReadyH.nil
      go_simp
      refine hK'.out _ _ ?_ (fun hHeld => ?_)
      · exact kq _
      clear hK' K'
      try simp only [Act.put, List.setIfInBounds_toArray, List.set_cons_zero, List.set_cons_succ]
      refine wpAnyH_ready (rs := [13]) (by kernel_rfl) (by simp) ?_
      refine AllReadyH.cons (o := { dst := some 37, op := Op.call { callee := Callee.builtin Builtin.append, args := #[Operand.tmp 28, Operand.tmp 36], argTypes := #[178, 178] }, type := 178, pos := "run.go:202", after := #[{ on := 4, ground := Ground.data }, { on := 12, ground := Ground.data }], guard := none }) rfl (fun K' hK' => ?_) AllReadyH.nil
      refine step_grown (d := 37) rfl elemA (by decide) (by decide) (v := .slice aa (cutA A z).length ca) (n := (cutA A z).length) (m := 1) (xs := flatA (cutA A z)) (news := [.int .i64 z, .int .i64 at_, .int .i64 tn]) (B := B) (ad := ⟨w1.heap.size, 0, none⟩) (cap := 1) rfl (.tmp 28) (.tmp 36) rfl rfl rfl ((unhide H1).fr L ((Fr.refl _ _).alloc (.cells #[.int .i64 z, .int .i64 at_, .int .i64 tn] 210)).drew).arow rfl (World.news_of_block (heap_alloc_new w1 _)) (by simp [Value.oneCell']) (by omega) (by omega) ((unhide H1).fr L ((Fr.refl _ _).alloc (.cells #[.int .i64 z, .int .i64 at_, .int .i64 tn] 210)).drew).below ?_
      intro v3 w3 o3 f3 sh3
      obtain ⟨av, cv, rfl⟩ := sh3
      have h2 := (unhide H1).fr L ((Fr.refl _ _).alloc (.cells #[.int .i64 z, .int .i64 at_, .int .i64 tn] 210)).drew
      have hbs := f3.same b h2.blt (fun e => (h2.inA b e).2.1 rfl)
      have c2 := h2.cells.block hbs
      have gg : w3.cell? ⟨b, 15, none⟩ = some (.int .i64 tn) := (c2 15 (by omega)).1.trans (by rw [limg_turn])
      have pc := (c2 16 (by omega)).1.trans (by rw [limg_armed])
      have pz := (c2 16 (by omega)).2
      have FIN := hide (h2.setArmed L (A' := cutA A z ++ [((true, at_, s.armings + 1, z), tn)]) (s' := { s with armings := s.armings + 1, tim := upd s.tim z.toNat (true, at_, s.armings + 1, z) }) (by rw [List.length_append, flatA_append]; exact o3) f3 (unhide HR) rfl rfl rfl rfl rfl rfl rfl)
      clear o3 f3 h2 hbs c2
      refine hK'.out _ _ gg (fun hHeld => ?_)
      clear hK' K'
      simp only [List.setIfInBounds_toArray, List.set_cons_zero, List.set_cons_succ]
      refine wpAnyH_take (i := 14) (oi := { dst := some 38, op := Op.nilCheck (Operand.tmp 24), type := 0, pos := "run.go:202", after := #[{ on := 0, ground := Ground.data }, { on := 0, ground := Ground.phase }, { on := 1, ground := Ground.phase }, { on := 2, ground := Ground.phase }, { on := 3, ground := Ground.phase }, { on := 4, ground := Ground.phase }, { on := 5, ground := Ground.phase }, { on := 6, ground := Ground.phase }, { on := 7, ground := Ground.phase }, { on := 8, ground := Ground.phase }, { on := 9, ground := Ground.phase }, { on := 10, ground := Ground.phase }, { on := 11, ground := Ground.phase }, { on := 12, ground := Ground.phase }, { on := 13, ground := Ground.phase }], guard := none }) (v := ?_) rfl (by kernel_rfl) (by kernel_rfl) (by kernel_rfl) (fun _ _ _ h => h) (Or.inl ⟨by rfl, ?_⟩) (by assumption) ?_
      rotate_left
      · intro w hSw; (try dsimp only at hSw); go_simp; try with_reducible rfl
      simp only [Act.put, List.setIfInBounds_toArray, List.set_cons_zero, List.set_cons_succ]
      refine wpAnyH_take (i := 15) (oi := { dst := some 39, op := Op.fieldAddr 180 (Operand.tmp 38) 8, type := 0, pos := "run.go:202", after := #[{ on := 14, ground := Ground.data }, { on := 0, ground := Ground.phase }, { on := 1, ground := Ground.phase }, { on := 2, ground := Ground.phase }, { on := 3, ground := Ground.phase }, { on := 4, ground := Ground.phase }, { on := 5, ground := Ground.phase }, { on := 6, ground := Ground.phase }, { on := 7, ground := Ground.phase }, { on := 8, ground := Ground.phase }, { on := 9, ground := Ground.phase }, { on := 10, ground := Ground.phase }, { on := 11, ground := Ground.phase }, { on := 12, ground := Ground.phase }, { on := 13, ground := Ground.phase }], guard := none }) (v := ?_) rfl (by kernel_rfl) (by kernel_rfl) (by kernel_rfl) (fun _ _ _ h => h) (Or.inl ⟨by rfl, ?_⟩) (by assumption) ?_
      rotate_left
      · intro w hSw; (try dsimp only at hSw); go_simp; try with_reducible rfl
      simp only [Act.put, List.setIfInBounds_toArray, List.set_cons_zero, List.set_cons_succ]
      refine wpAnyH_ready (rs := [16]) (by kernel_rfl) (by simp) ?_
      refine AllReadyH.cons (o := { dst := none, op := Op.store 178 (Operand.tmp 39) (Operand.tmp 37), type := 0, pos := "run.go:202", after := #[{ on := 15, ground := Ground.data }, { on := 13, ground := Ground.data }, { on := 13, ground := Ground.chain }, { on := 0, ground := Ground.phase }, { on := 1, ground := Ground.phase }, { on := 2, ground := Ground.phase }, { on := 3, ground := Ground.phase }, { on := 4, ground := Ground.phase }, { on := 5, ground := Ground.phase }, { on := 6, ground := Ground.phase }, { on := 7, ground := Ground.phase }, { on := 8, ground := Ground.phase }, { on := 9, ground := Ground.phase }, { on := 10, ground := Ground.phase }, { on := 11, ground := Ground.phase }, { on := 12, ground := Ground.phase }, { on := 13, ground := Ground.phase }], guard := none }) rfl (fun K' hK' => ?_) AllReadyH.nil
      go_simp
      refine hK'.out _ _ ?_ (fun hHeld => ?_)
      · simp [go_sem, gg]
      clear hK' K'
      try simp only [Act.put, List.setIfInBounds_toArray, List.set_cons_zero, List.set_cons_succ]
      refine wpAnyH_done (by kernel_rfl) ?_ _
      go_wp2
      go_end0
      exact ⟨rfl, _, _, (unhide FIN).1, (unhide F1).trans ((((Fr.refl _ _).alloc (.cells #[.int .i64 z, .int .i64 at_, .int .i64 tn] 210)).drew).trans (unhide FIN).2)⟩
    · go_simp
      refine hK'.out _ _ ?_ (fun hHeld => ?_)
      · exact kq _
      clear hK' K'
      try simp only [Act.put, List.setIfInBounds_toArray, List.set_cons_zero, List.set_cons_succ]
      refine wpAnyH_ready (rs := [4]) (by kernel_rfl) (by simp) ?_
      refine AllReadyH.cons (o := { dst := some 28, op := Op.load 178 (Operand.tmp 27), type := 178, pos := "run.go:202", after := #[{ on := 3, ground := Ground.data }], guard := none }) rfl (fun K' hK' => ?_) AllReadyH.nil
      go_simp
      refine hK'.out _ _ ?_ (fun hHeld => ?_)
      · exact kq _
      clear hK' K'
      try simp only [Act.put, List.setIfInBounds_toArray, List.set_cons_zero, List.set_cons_succ]
      refine wpAnyH_ready (rs := [13]) (by kernel_rfl) (by simp) ?_
      refine AllReadyH.cons (o := { dst := some 37, op := Op.call { callee := Callee.builtin Builtin.append, args := #[Operand.tmp 28, Operand.tmp 36], argTypes := #[178, 178] }, type := 178, pos := "run.go:202", after := #[{ on := 4, ground := Ground.data }, { on := 12, ground := Ground.data }], guard := none }) rfl (fun K' hK' => ?_) AllReadyH.nil
      refine step_grown (d := 37) rfl elemA (by decide) (by decide) (v := .slice aa (cutA A z).length ca) (n := (cutA A z).length) (m := 1) (xs := flatA (cutA A z)) (news := [.int .i64 z, .int .i64 at_, .int .i64 tn]) (B := B) (ad := ⟨w1.heap.size, 0, none⟩) (cap := 1) rfl (.tmp 28) (.tmp 36) rfl rfl rfl ((unhide H1).fr L ((Fr.refl _ _).alloc (.cells #[.int .i64 z, .int .i64 at_, .int .i64 tn] 210)).drew).arow rfl (World.news_of_block (heap_alloc_new w1 _)) (by simp [Value.oneCell']) (by omega) (by omega) ((unhide H1).fr L ((Fr.refl _ _).alloc (.cells #[.int .i64 z, .int .i64 at_, .int .i64 tn] 210)).drew).below ?_
      intro v3 w3 o3 f3 sh3
      obtain ⟨av, cv, rfl⟩ := sh3
      have h2 := (unhide H1).fr L ((Fr.refl _ _).alloc (.cells #[.int .i64 z, .int .i64 at_, .int .i64 tn] 210)).drew
      have hbs := f3.same b h2.blt (fun e => (h2.inA b e).2.1 rfl)
      have c2 := h2.cells.block hbs
      have gg : w3.cell? ⟨b, 15, none⟩ = some (.int .i64 tn) := (c2 15 (by omega)).1.trans (by rw [limg_turn])
      have pc := (c2 16 (by omega)).1.trans (by rw [limg_armed])
      have pz := (c2 16 (by omega)).2
      have FIN := hide (h2.setArmed L (A' := cutA A z ++ [((true, at_, s.armings + 1, z), tn)]) (s' := { s with armings := s.armings + 1, tim := upd s.tim z.toNat (true, at_, s.armings + 1, z) }) (by rw [List.length_append, flatA_append]; exact o3) f3 (unhide HR) rfl rfl rfl rfl rfl rfl rfl)
      clear o3 f3 h2 hbs c2
      refine hK'.out _ _ gg (fun hHeld => ?_)
      clear hK' K'
      simp only [List.setIfInBounds_toArray, List.set_cons_zero, List.set_cons_succ]
      refine wpAnyH_take (i := 14) (oi := { dst := some 38, op := Op.nilCheck (Operand.tmp 24), type := 0, pos := "run.go:202", after := #[{ on := 0, ground := Ground.data }, { on := 0, ground := Ground.phase }, { on := 1, ground := Ground.phase }, { on := 2, ground := Ground.phase }, { on := 3, ground := Ground.phase }, { on := 4, ground := Ground.phase }, { on := 5, ground := Ground.phase }, { on := 6, ground := Ground.phase }, { on := 7, ground := Ground.phase }, { on := 8, ground := Ground.phase }, { on := 9, ground := Ground.phase }, { on := 10, ground := Ground.phase }, { on := 11, ground := Ground.phase }, { on := 12, ground := Ground.phase }, { on := 13, ground := Ground.phase }], guard := none }) (v := ?_) rfl (by kernel_rfl) (by kernel_rfl) (by kernel_rfl) (fun _ _ _ h => h) (Or.inl ⟨by rfl, ?_⟩) (by assumption) ?_
      rotate_left
      · intro w hSw; (try dsimp only at hSw); go_simp; try with_reducible rfl
      simp only [Act.put, List.setIfInBounds_toArray, List.set_cons_zero, List.set_cons_succ]
      refine wpAnyH_take (i := 15) (oi := { dst := some 39, op := Op.fieldAddr 180 (Operand.tmp 38) 8, type := 0, pos := "run.go:202", after := #[{ on := 14, ground := Ground.data }, { on := 0, ground := Ground.phase }, { on := 1, ground := Ground.phase }, { on := 2, ground := Ground.phase }, { on := 3, ground := Ground.phase }, { on := 4, ground := Ground.phase }, { on := 5, ground := Ground.phase }, { on := 6, ground := Ground.phase }, { on := 7, ground := Ground.phase }, { on := 8, ground := Ground.phase }, { on := 9, ground := Ground.phase }, { on := 10, ground := Ground.phase }, { on := 11, ground := Ground.phase }, { on := 12, ground := Ground.phase }, { on := 13, ground := Ground.phase }], guard := none }) (v := ?_) rfl (by kernel_rfl) (by kernel_rfl) (by kernel_rfl) (fun _ _ _ h => h) (Or.inl ⟨by rfl, ?_⟩) (by assumption) ?_
      rotate_left
      · intro w hSw; (try dsimp only at hSw); go_simp; try with_reducible rfl
      simp only [Act.put, List.setIfInBounds_toArray, List.set_cons_zero, List.set_cons_succ]
      refine wpAnyH_ready (rs := [16]) (by kernel_rfl) (by simp) ?_
      refine AllReadyH.cons (o := { dst := none, op := Op.store 178 (Operand.tmp 39) (Operand.tmp 37), type := 0, pos := "run.go:202", after := #[{ on := 15, ground := Ground.data }, { on := 13, ground := Ground.data }, { on := 13, ground := Ground.chain }, { on := 0, ground := Ground.phase }, { on := 1, ground := Ground.phase }, { on := 2, ground := Ground.phase }, { on := 3, ground := Ground.phase }, { on := 4, ground := Ground.phase }, { on := 5, ground := Ground.phase }, { on := 6, ground := Ground.phase }, { on := 7, ground := Ground.phase }, { on := 8, ground := Ground.phase }, { on := 9, ground := Ground.phase }, { on := 10, ground := Ground.phase }, { on := 11, ground := Ground.phase }, { on := 12, ground := Ground.phase }, { on := 13, ground := Ground.phase }], guard := none }) rfl (fun K' hK' => ?_) AllReadyH.nil
      go_simp
      refine hK'.out _ _ ?_ (fun hHeld => ?_)
      · simp [go_sem, gg]
      clear hK' K'
      try simp only [Act.put, List.setIfInBounds_toArray, List.set_cons_zero, List.set_cons_succ]
      refine wpAnyH_done (by kernel_rfl) ?_ _
      go_wp2
      go_end0
      exact ⟨rfl, _, _, (unhide FIN).1, (unhide F1).trans ((((Fr.refl _ _).alloc (.cells #[.int .i64 z, .int .i64 at_, .int .i64 tn] 210)).drew).trans (unhide FIN).2)⟩
  · have e1 : (1099511627776 : Int) = at_ := by have := unhide HAT; omega
    have hlt' : ¬ v < 1099511627776 - s.clock := hlt
    go_wp2
    have e2 : (Value.int .i64 1099511627776) = .int .i64 at_ := by rw [← e1]
    rw [e2]
    clear e1 e2
    refine wp_region_held_drew (S := fun w' => w'.cell? ⟨b, 15, none⟩ = some (.int .i64 tn)) (by kernel_rfl) ?_ (fun hHeld => ?_)
    · exact k15
    refine wpAnyH_take (i := 0) (oi := { dst := some 24, op := Op.move (Operand.tmp 0), type := 177, pos := "run.go:202", after := #[], guard := none }) (v := ?_) rfl (by kernel_rfl) (by kernel_rfl) (by kernel_rfl) (fun _ _ _ h => h) (Or.inl ⟨by rfl, ?_⟩) (by assumption) ?_
    rotate_left
    · intro w hSw; (try dsimp only at hSw); go_simp; try with_reducible rfl
    simp only [Act.put, List.setIfInBounds_toArray, List.set_cons_zero, List.set_cons_succ]
    refine wpAnyH_take (i := 1) (oi := { dst := some 25, op := Op.move (Operand.tmp 0), type := 177, pos := "run.go:202", after := #[], guard := none }) (v := ?_) rfl (by kernel_rfl) (by kernel_rfl) (by kernel_rfl) (fun _ _ _ h => h) (Or.inl ⟨by rfl, ?_⟩) (by assumption) ?_
    rotate_left
    · intro w hSw; (try dsimp only at hSw); go_simp; try with_reducible rfl
    simp only [Act.put, List.setIfInBounds_toArray, List.set_cons_zero, List.set_cons_succ]
    refine wpAnyH_take (i := 2) (oi := { dst := some 26, op := Op.nilCheck (Operand.tmp 25), type := 0, pos := "run.go:202", after := #[{ on := 1, ground := Ground.data }], guard := none }) (v := ?_) rfl (by kernel_rfl) (by kernel_rfl) (by kernel_rfl) (fun _ _ _ h => h) (Or.inl ⟨by rfl, ?_⟩) (by assumption) ?_
    rotate_left
    · intro w hSw; (try dsimp only at hSw); go_simp; try with_reducible rfl
    simp only [Act.put, List.setIfInBounds_toArray, List.set_cons_zero, List.set_cons_succ]
    refine wpAnyH_take (i := 3) (oi := { dst := some 27, op := Op.fieldAddr 180 (Operand.tmp 26) 8, type := 0, pos := "run.go:202", after := #[{ on := 2, ground := Ground.data }], guard := none }) (v := ?_) rfl (by kernel_rfl) (by kernel_rfl) (by kernel_rfl) (fun _ _ _ h => h) (Or.inl ⟨by rfl, ?_⟩) (by assumption) ?_
    rotate_left
    · intro w hSw; (try dsimp only at hSw); go_simp; try with_reducible rfl
    simp only [Act.put, List.setIfInBounds_toArray, List.set_cons_zero, List.set_cons_succ]
    refine wpAnyH_take (i := 5) (oi := { dst := some 29, op := Op.move (Operand.tmp 1), type := 3, pos := "run.go:202", after := #[], guard := none }) (v := ?_) rfl (by kernel_rfl) (by kernel_rfl) (by kernel_rfl) (fun _ _ _ h => h) (Or.inl ⟨by rfl, ?_⟩) (by assumption) ?_
    rotate_left
    · intro w hSw; (try dsimp only at hSw); go_simp; try with_reducible rfl
    simp only [Act.put, List.setIfInBounds_toArray, List.set_cons_zero, List.set_cons_succ]
    refine wpAnyH_take (i := 6) (oi := { dst := some 30, op := Op.move (Operand.tmp 6), type := 3, pos := "run.go:202", after := #[], guard := none }) (v := ?_) rfl (by kernel_rfl) (by kernel_rfl) (by kernel_rfl) (fun _ _ _ h => h) (Or.inl ⟨by rfl, ?_⟩) (by assumption) ?_
    rotate_left
    · intro w hSw; (try dsimp only at hSw); go_simp; try with_reducible rfl
    simp only [Act.put, List.setIfInBounds_toArray, List.set_cons_zero, List.set_cons_succ]
    refine wpAnyH_take (i := 7) (oi := { dst := some 31, op := Op.move (Operand.tmp 0), type := 177, pos := "run.go:202", after := #[], guard := none }) (v := ?_) rfl (by kernel_rfl) (by kernel_rfl) (by kernel_rfl) (fun _ _ _ h => h) (Or.inl ⟨by rfl, ?_⟩) (by assumption) ?_
    rotate_left
    · intro w hSw; (try dsimp only at hSw); go_simp; try with_reducible rfl
    simp only [Act.put, List.setIfInBounds_toArray, List.set_cons_zero, List.set_cons_succ]
    refine wpAnyH_take (i := 8) (oi := { dst := some 32, op := Op.nilCheck (Operand.tmp 31), type := 0, pos := "run.go:202", after := #[{ on := 7, ground := Ground.data }], guard := none }) (v := ?_) rfl (by kernel_rfl) (by kernel_rfl) (by kernel_rfl) (fun _ _ _ h => h) (Or.inl ⟨by rfl, ?_⟩) (by assumption) ?_
    rotate_left
    · intro w hSw; (try dsimp only at hSw); go_simp; try with_reducible rfl
    simp only [Act.put, List.setIfInBounds_toArray, List.set_cons_zero, List.set_cons_succ]
    refine wpAnyH_take (i := 9) (oi := { dst := some 33, op := Op.fieldAddr 180 (Operand.tmp 32) 7, type := 0, pos := "run.go:202", after := #[{ on := 8, ground := Ground.data }], guard := none }) (v := ?_) rfl (by kernel_rfl) (by kernel_rfl) (by kernel_rfl) (fun _ _ _ h => h) (Or.inl ⟨by rfl, ?_⟩) (by assumption) ?_
    rotate_left
    · intro w hSw; (try dsimp only at hSw); go_simp; try with_reducible rfl
    simp only [Act.put, List.setIfInBounds_toArray, List.set_cons_zero, List.set_cons_succ]
    refine wpAnyH_take (i := 10) (oi := { dst := some 34, op := Op.load 3 (Operand.tmp 33), type := 3, pos := "run.go:202", after := #[{ on := 9, ground := Ground.data }], guard := none }) (v := ?_) rfl (by kernel_rfl) (by kernel_rfl) (by kernel_rfl) (fun _ _ _ h => h) (Or.inl ⟨by rfl, ?_⟩) (by assumption) ?_
    rotate_left
    · intro w hSw; (try dsimp only at hSw); go_simp; try with_reducible rfl
    simp only [Act.put, List.setIfInBounds_toArray, List.set_cons_zero, List.set_cons_succ]
    refine wpAnyH_take (i := 11) (oi := { dst := some 35, op := Op.build 210 #[(0, Operand.tmp 29), (1, Operand.tmp 30), (2, Operand.tmp 34)], type := 210, pos := "run.go:202", after := #[{ on := 5, ground := Ground.data }, { on := 6, ground := Ground.data }, { on := 10, ground := Ground.data }], guard := none }) (v := ?_) rfl (by kernel_rfl) (by kernel_rfl) (by kernel_rfl) (fun _ _ _ h => h) (Or.inl ⟨by rfl, ?_⟩) (by assumption) ?_
    rotate_left
    · intro w hSw; (try dsimp only at hSw); go_simp; try with_reducible rfl
    simp only [Act.put, List.setIfInBounds_toArray, List.set_cons_zero, List.set_cons_succ]
    refine wpAnyH_ready (rs := [4, 12]) (by kernel_rfl) (by simp) ?_
    refine AllReadyH.cons (o := { dst := some 28, op := Op.load 178 (Operand.tmp 27), type := 178, pos := "run.go:202", after := #[{ on := 3, ground := Ground.data }], guard := none }) rfl (fun K' hK' => ?_) (AllReadyH.cons (o := { dst := some 36, op := Op.buildSlice 178 1 #[(0, Operand.tmp 35)], type := 178, pos := "run.go:202", after := #[{ on := 11, ground := Ground.data }], guard := none }) rfl (fun K' hK' => ?_) AllReadyH.nil)
    · go_simp
      refine hK'.out _ _ ?_ (fun hHeld => ?_)
      · exact k15
      clear hK' K'
      try simp only [Act.put, List.setIfInBounds_toArray, List.set_cons_zero, List.set_cons_succ]
      refine wpAnyH_ready (rs := [12]) (by kernel_rfl) (by simp) ?_
      refine AllReadyH.cons (o := { dst := some 36, op := Op.buildSlice 178 1 #[(0, Operand.tmp 35)], type := 178, pos := "run.go:202", after := #[{ on := 11, ground := Ground.data }], guard := none }) rfl (fun K' hK' => ?_) AllReadyH.nil
      go_simp
      refine hK'.out _ _ ?_ (fun hHeld => ?_)
      · exact kq _
      clear hK' K'
      try simp only [Act.put, List.setIfInBounds_toArray, List.set_cons_zero, List.set_cons_succ]
      refine wpAnyH_ready (rs := [13]) (by kernel_rfl) (by simp) ?_
      refine AllReadyH.cons (o := { dst := some 37, op := Op.call { callee := Callee.builtin Builtin.append, args := #[Operand.tmp 28, Operand.tmp 36], argTypes := #[178, 178] }, type := 178, pos := "run.go:202", after := #[{ on := 4, ground := Ground.data }, { on := 12, ground := Ground.data }], guard := none }) rfl (fun K' hK' => ?_) AllReadyH.nil
      refine step_grown (d := 37) rfl elemA (by decide) (by decide) (v := .slice aa (cutA A z).length ca) (n := (cutA A z).length) (m := 1) (xs := flatA (cutA A z)) (news := [.int .i64 z, .int .i64 at_, .int .i64 tn]) (B := B) (ad := ⟨w1.heap.size, 0, none⟩) (cap := 1) rfl (.tmp 28) (.tmp 36) rfl rfl rfl ((unhide H1).fr L ((Fr.refl _ _).alloc (.cells #[.int .i64 z, .int .i64 at_, .int .i64 tn] 210)).drew).arow rfl (World.news_of_block (heap_alloc_new w1 _)) (by simp [Value.oneCell']) (by omega) (by omega) ((unhide H1).fr L ((Fr.refl _ _).alloc (.cells #[.int .i64 z, .int .i64 at_, .int .i64 tn] 210)).drew).below ?_
      intro v3 w3 o3 f3 sh3
      obtain ⟨av, cv, rfl⟩ := sh3
      have h2 := (unhide H1).fr L ((Fr.refl _ _).alloc (.cells #[.int .i64 z, .int .i64 at_, .int .i64 tn] 210)).drew
      have hbs := f3.same b h2.blt (fun e => (h2.inA b e).2.1 rfl)
      have c2 := h2.cells.block hbs
      have gg : w3.cell? ⟨b, 15, none⟩ = some (.int .i64 tn) := (c2 15 (by omega)).1.trans (by rw [limg_turn])
      have pc := (c2 16 (by omega)).1.trans (by rw [limg_armed])
      have pz := (c2 16 (by omega)).2
      have FIN := hide (h2.setArmed L (A' := cutA A z ++ [((true, at_, s.armings + 1, z), tn)]) (s' := { s with armings := s.armings + 1, tim := upd s.tim z.toNat (true, at_, s.armings + 1, z) }) (by rw [List.length_append, flatA_append]; exact o3) f3 (unhide HR) rfl rfl rfl rfl rfl rfl rfl)
      clear o3 f3 h2 hbs c2
      refine hK'.out _ _ gg (fun hHeld => ?_)
      clear hK' K'
      simp only [List.setIfInBounds_toArray, List.set_cons_zero, List.set_cons_succ]
      refine wpAnyH_take (i := 14) (oi := { dst := some 38, op := Op.nilCheck (Operand.tmp 24), type := 0, pos := "run.go:202", after := #[{ on := 0, ground := Ground.data }, { on := 0, ground := Ground.phase }, { on := 1, ground := Ground.phase }, { on := 2, ground := Ground.phase }, { on := 3, ground := Ground.phase }, { on := 4, ground := Ground.phase }, { on := 5, ground := Ground.phase }, { on := 6, ground := Ground.phase }, { on := 7, ground := Ground.phase }, { on := 8, ground := Ground.phase }, { on := 9, ground := Ground.phase }, { on := 10, ground := Ground.phase }, { on := 11, ground := Ground.phase }, { on := 12, ground := Ground.phase }, { on := 13, ground := Ground.phase }], guard := none }) (v := ?_) rfl (by kernel_rfl) (by kernel_rfl) (by kernel_rfl) (fun _ _ _ h => h) (Or.inl ⟨by rfl, ?_⟩) (by assumption) ?_
      rotate_left
      · intro w hSw; (try dsimp only at hSw); go_simp; try with_reducible rfl
      simp only [Act.put, List.setIfInBounds_toArray, List.set_cons_zero, List.set_cons_succ]
      refine wpAnyH_take (i := 15) (oi := { dst := some 39, op := Op.fieldAddr 180 (Operand.tmp 38) 8, type := 0, pos := "run.go:202", after := #[{ on := 14, ground := Ground.data }, { on := 0, ground := Ground.phase }, { on := 1, ground := Ground.phase }, { on := 2, ground := Ground.phase }, { on := 3, ground := Ground.phase }, { on := 4, ground := Ground.phase }, { on := 5, ground := Ground.phase }, { on := 6, ground := Ground.phase }, { on := 7, ground := Ground.phase }, { on := 8, ground := Ground.phase }, { on := 9, ground := Ground.phase }, { on := 10, ground := Ground.phase }, { on := 11, ground := Ground.phase }, { on := 12, ground := Ground.phase }, { on := 13, ground := Ground.phase }], guard := none }) (v := ?_) rfl (by kernel_rfl) (by kernel_rfl) (by kernel_rfl) (fun _ _ _ h => h) (Or.inl ⟨by rfl, ?_⟩) (by assumption) ?_
      rotate_left
      · intro w hSw; (try dsimp only at hSw); go_simp; try with_reducible rfl
      simp only [Act.put, List.setIfInBounds_toArray, List.set_cons_zero, List.set_cons_succ]
      refine wpAnyH_ready (rs := [16]) (by kernel_rfl) (by simp) ?_
      refine AllReadyH.cons (o := { dst := none, op := Op.store 178 (Operand.tmp 39) (Operand.tmp 37), type := 0, pos := "run.go:202", after := #[{ on := 15, ground := Ground.data }, { on := 13, ground := Ground.data }, { on := 13, ground := Ground.chain }, { on := 0, ground := Ground.phase }, { on := 1, ground := Ground.phase }, { on := 2, ground := Ground.phase }, { on := 3, ground := Ground.phase }, { on := 4, ground := Ground.phase }, { on := 5, ground := Ground.phase }, { on := 6, ground := Ground.phase }, { on := 7, ground := Ground.phase }, { on := 8, ground := Ground.phase }, { on := 9, ground := Ground.phase }, { on := 10, ground := Ground.phase }, { on := 11, ground := Ground.phase }, { on := 12, ground := Ground.phase }, { on := 13, ground := Ground.phase }], guard := none }) rfl (fun K' hK' => ?_) AllReadyH.nil
      go_simp
      refine hK'.out _ _ ?_ (fun hHeld => ?_)
      · simp [go_sem, gg]
      clear hK' K'
      try simp only [Act.put, List.setIfInBounds_toArray, List.set_cons_zero, List.set_cons_succ]
      refine wpAnyH_done (by kernel_rfl) ?_ _
      go_wp2
      go_end0
      exact ⟨rfl, _, _, (unhide FIN).1, (unhide F1).trans ((((Fr.refl _ _).alloc (.cells #[.int .i64 z, .int .i64 at_, .int .i64 tn] 210)).drew).trans (unhide FIN).2)⟩
    · go_simp
      refine hK'.out _ _ ?_ (fun hHeld => ?_)
      · exact kq _
      clear hK' K'
      try simp only [Act.put, List.setIfInBounds_toArray, List.set_cons_zero, List.set_cons_succ]
      refine wpAnyH_ready (rs := [4]) (by kernel_rfl) (by simp) ?_
      refine AllReadyH.cons (o := { dst := some 28, op := Op.load 178 (Operand.tmp 27), type := 178, pos := "run.go:202", after := #[{ on := 3, ground := Ground.data }], guard := none }) rfl (fun K' hK' => ?_) AllReadyH.nil
      go_simp
      refine hK'.out _ _ ?_ (fun hHeld => ?_)
      · exact kq _
      clear hK' K'
      try simp only [Act.put, List.setIfInBounds_toArray, List.set_cons_zero, List.set_cons_succ]
      refine wpAnyH_ready (rs := [13]) (by kernel_rfl) (by simp) ?_
      refine AllReadyH.cons (o := { dst := some 37, op := Op.call { callee := Callee.builtin Builtin.append, args := #[Operand.tmp 28, Operand.tmp 36], argTypes := #[178, 178] }, type := 178, pos := "run.go:202", after := #[{ on := 4, ground := Ground.data }, { on := 12, ground := Ground.data }], guard := none }) rfl (fun K' hK' => ?_) AllReadyH.nil
      refine step_grown (d := 37) rfl elemA (by decide) (by decide) (v := .slice aa (cutA A z).length ca) (n := (cutA A z).length) (m := 1) (xs := flatA (cutA A z)) (news := [.int .i64 z, .int .i64 at_, .int .i64 tn]) (B := B) (ad := ⟨w1.heap.size, 0, none⟩) (cap := 1) rfl (.tmp 28) (.tmp 36) rfl rfl rfl ((unhide H1).fr L ((Fr.refl _ _).alloc (.cells #[.int .i64 z, .int .i64 at_, .int .i64 tn] 210)).drew).arow rfl (World.news_of_block (heap_alloc_new w1 _)) (by simp [Value.oneCell']) (by omega) (by omega) ((unhide H1).fr L ((Fr.refl _ _).alloc (.cells #[.int .i64 z, .int .i64 at_, .int .i64 tn] 210)).drew).below ?_
      intro v3 w3 o3 f3 sh3
      obtain ⟨av, cv, rfl⟩ := sh3
      have h2 := (unhide H1).fr L ((Fr.refl _ _).alloc (.cells #[.int .i64 z, .int .i64 at_, .int .i64 tn] 210)).drew
      have hbs := f3.same b h2.blt (fun e => (h2.inA b e).2.1 rfl)
      have c2 := h2.cells.block hbs
      have gg : w3.cell? ⟨b, 15, none⟩ = some (.int .i64 tn) := (c2 15 (by omega)).1.trans (by rw [limg_turn])
      have pc := (c2 16 (by omega)).1.trans (by rw [limg_armed])
      have pz := (c2 16 (by omega)).2
      have FIN := hide (h2.setArmed L (A' := cutA A z ++ [((true, at_, s.armings + 1, z), tn)]) (s' := { s with armings := s.armings + 1, tim := upd s.tim z.toNat (true, at_, s.armings + 1, z) }) (by rw [List.length_append, flatA_append]; exact o3) f3 (unhide HR) rfl rfl rfl rfl rfl rfl rfl)
      clear o3 f3 h2 hbs c2
      refine hK'.out _ _ gg (fun hHeld => ?_)
      clear hK' K'
      simp only [List.setIfInBounds_toArray, List.set_cons_zero, List.set_cons_succ]
      refine wpAnyH_take (i := 14) (oi := { dst := some 38, op := Op.nilCheck (Operand.tmp 24), type := 0, pos := "run.go:202", after := #[{ on := 0, ground := Ground.data }, { on := 0, ground := Ground.phase }, { on := 1, ground := Ground.phase }, { on := 2, ground := Ground.phase }, { on := 3, ground := Ground.phase }, { on := 4, ground := Ground.phase }, { on := 5, ground := Ground.phase }, { on := 6, ground := Ground.phase }, { on := 7, ground := Ground.phase }, { on := 8, ground := Ground.phase }, { on := 9, ground := Ground.phase }, { on := 10, ground := Ground.phase }, { on := 11, ground := Ground.phase }, { on := 12, ground := Ground.phase }, { on := 13, ground := Ground.phase }], guard := none }) (v := ?_) rfl (by kernel_rfl) (by kernel_rfl) (by kernel_rfl) (fun _ _ _ h => h) (Or.inl ⟨by rfl, ?_⟩) (by assumption) ?_
      rotate_left
      · intro w hSw; (try dsimp only at hSw); go_simp; try with_reducible rfl
      simp only [Act.put, List.setIfInBounds_toArray, List.set_cons_zero, List.set_cons_succ]
      refine wpAnyH_take (i := 15) (oi := { dst := some 39, op := Op.fieldAddr 180 (Operand.tmp 38) 8, type := 0, pos := "run.go:202", after := #[{ on := 14, ground := Ground.data }, { on := 0, ground := Ground.phase }, { on := 1, ground := Ground.phase }, { on := 2, ground := Ground.phase }, { on := 3, ground := Ground.phase }, { on := 4, ground := Ground.phase }, { on := 5, ground := Ground.phase }, { on := 6, ground := Ground.phase }, { on := 7, ground := Ground.phase }, { on := 8, ground := Ground.phase }, { on := 9, ground := Ground.phase }, { on := 10, ground := Ground.phase }, { on := 11, ground := Ground.phase }, { on := 12, ground := Ground.phase }, { on := 13, ground := Ground.phase }], guard := none }) (v := ?_) rfl (by kernel_rfl) (by kernel_rfl) (by kernel_rfl) (fun _ _ _ h => h) (Or.inl ⟨by rfl, ?_⟩) (by assumption) ?_
      rotate_left
      · intro w hSw; (try dsimp only at hSw); go_simp; try with_reducible rfl
      simp only [Act.put, List.setIfInBounds_toArray, List.set_cons_zero, List.set_cons_succ]
      refine wpAnyH_ready (rs := [16]) (by kernel_rfl) (by simp) ?_
      refine AllReadyH.cons (o := { dst := none, op := Op.store 178 (Operand.tmp 39) (Operand.tmp 37), type := 0, pos := "run.go:202", after := #[{ on := 15, ground := Ground.data }, { on := 13, ground := Ground.data }, { on := 13, ground := Ground.chain }, { on := 0, ground := Ground.phase }, { on := 1, ground := Ground.phase }, { on := 2, ground := Ground.phase }, { on := 3, ground := Ground.phase }, { on := 4, ground := Ground.phase }, { on := 5, ground := Ground.phase }, { on := 6, ground := Ground.phase }, { on := 7, ground := Ground.phase }, { on := 8, ground := Ground.phase }, { on := 9, ground := Ground.phase }, { on := 10, ground := Ground.phase }, { on := 11, ground := Ground.phase }, { on := 12, ground := Ground.phase }, { on := 13, ground := Ground.phase }], guard := none }) rfl (fun K' hK' => ?_) AllReadyH.nil
      go_simp
      refine hK'.out _ _ ?_ (fun hHeld => ?_)
      · simp [go_sem, gg]
      clear hK' K'
      try simp only [Act.put, List.setIfInBounds_toArray, List.set_cons_zero, List.set_cons_succ]
      refine wpAnyH_done (by kernel_rfl) ?_ _
      go_wp2
      go_end0
      exact ⟨rfl, _, _, (unhide FIN).1, (unhide F1).trans ((((Fr.refl _ _).alloc (.cells #[.int .i64 z, .int .i64 at_, .int .i64 tn] 210)).drew).trans (unhide FIN).2)⟩
end
end Go.Proofs.YtfmbebofllgmoaaGreatDoor
namespace Go.Proofs.YtfmbebofllgmoaaGreatDoor
open Go.RowKit
attribute [local go_sem ↓] Go.wp_at_zero Go.wp_at_succ

section
variable {pv : Nat → Value} {vt va : Value} {s : PS} {tn : Int}
theorem lset_fin (v : Int) : ∀ j, j < 28 → limg pv vt va { s with fin := v } tn j = setC (limg pv vt va s tn) 27 (.int .i64 v) j :=
  lset_gen (limg_fin _ _ _ _ _) (fun _ _ _ => rfl) (fun _ => rfl) (fun _ => rfl) (fun _ => rfl) (fun _ _ _ => rfl) (fun _ => rfl) (fun _ => rfl) (fun e => absurd rfl e)
theorem lset_clock (v : Int) : ∀ j, j < 28 → limg pv vt va { s with clock := v } tn j = setC (limg pv vt va s tn) 14 (.int .i64 v) j :=
  lset_gen (limg_clock _ _ _ _ _) (fun _ _ _ => rfl) (fun e => absurd rfl e) (fun _ => rfl) (fun _ => rfl) (fun _ _ _ => rfl) (fun _ => rfl) (fun _ => rfl) (fun _ => rfl)
theorem lset_fuel (v : Int) : ∀ j, j < 28 → limg pv vt va { s with fuel := v } tn j = setC (limg pv vt va s tn) 25 (.int .i64 v) j :=
  lset_gen (limg_fuel _ _ _ _ _) (fun _ _ _ => rfl) (fun _ => rfl) (fun _ => rfl) (fun _ => rfl) (fun _ _ _ => rfl) (fun e => absurd rfl e) (fun _ => rfl) (fun _ => rfl)
theorem lset_turn (v : Int) : ∀ j, j < 28 → limg pv vt va s v j = setC (limg pv vt va s tn) 15 (.int .i64 v) j :=
  lset_gen (limg_turn _ _ _ _ _) (fun _ _ _ => rfl) (fun _ => rfl) (fun e => absurd rfl e) (fun _ => rfl) (fun _ _ _ => rfl) (fun _ => rfl) (fun _ => rfl) (fun _ => rfl)
theorem lset_reg (i : Nat) (v : Int) (h : i < 4) : ∀ j, j < 28 → limg pv vt va { s with reg := upd s.reg i v } tn j = setC (limg pv vt va s tn) (10 + i) (.int .i64 v) j :=
  lset_gen (by rw [limg_reg _ _ _ _ _ _ h]; simp [upd]) (fun j _ hne => by simp only [upd]; rw [if_neg (by omega)]) (fun _ => rfl) (fun _ => rfl) (fun _ => rfl) (fun _ _ _ => rfl) (fun _ => rfl) (fun _ => rfl) (fun _ => rfl)
theorem lset_wat (i : Nat) (v : Bool) (h : i < 8) : ∀ j, j < 28 → limg pv vt va { s with wat := upd s.wat i v } tn j = setC (limg pv vt va s tn) (17 + i) (.bool v) j :=
  lset_gen (by rw [limg_wat _ _ _ _ _ _ h]; simp [upd]) (fun _ _ _ => rfl) (fun _ => rfl) (fun _ => rfl) (fun _ => rfl) (fun j _ hne => by simp only [upd]; rw [if_neg (by omega)]) (fun _ => rfl) (fun _ => rfl) (fun _ => rfl)
end
section
variable {σ : Type} {SQ : (Nat → Value) → (Nat → Prop) → World → σ → Prop} {ask : σ → Int → Int → Rep × σ} {may : Int → Int → Prop} {B : Nat} {S T : Nat → Prop} {w : World} {b : Nat} {pv : Nat → Value} {vt va : Value} {s : PS} {A : List AT} {tn sq : Int} {x : σ}
/-- The loop in memory behind a question: its rows stand as they stood. -/
def LPostS (SQ : (Nat → Value) → (Nat → Prop) → World → σ → Prop) (B : Nat) (S : Nat → Prop) (w : World) (b : Nat) (pv : Nat → Value) (vt va : Value) (A : List AT) (tn sq : Int) (s : PS) (x : σ) (w' : World) : Prop :=
  ∃ S' pv' T', LQ SQ B S' w' b pv' vt va T' s A tn sq x ∧ (∀ i, i < 3 → pv' i = pv i) ∧ Fr S w w' S'
/-- A question is heard, or ends the run. -/
def hearS (s : PS) (R : Rep) : PS := if R.e = 0 then { s with heard := wrap64 (s.heard + 1) } else { s with fin := R.e }
/-- A source that keeps its word. -/
structure HearQ (SQ : (Nat → Value) → (Nat → Prop) → World → σ → Prop) (ask : σ → Int → Int → Rep × σ) (may : Int → Int → Prop) (B : Nat) : Prop where
  calls : ∀ {S T : Nat → Prop} {w : World} {b : Nat} {pv : Nat → Value} {vt va : Value} {s : PS} {A : List AT} {tn sq : Int} {x : σ} {k o : Int}, LQ SQ B S w b pv vt va T s A tn sq x → s.fin = 0 → may k o →
    Calls Tryz.prog 141 #[.pointer (some ⟨b, 0, none⟩), .int .i64 k, .int .i64 o] w fun e w' => ∃ kd of_ n fa fl fc, e = .returned (.agg #[.int .i64 kd, .int .i64 of_, .int .i64 n, .slice fa fl fc]) ∧ LPostS SQ B S w b pv vt va A tn sq (hearS s (ask x k o).1) (ask x k o).2 w' ∧
      ((ask x k o).1.e = 0 → n = (ask x k o).1.n ∧ IntsIn w' (.slice fa fl fc) (ask x k o).1.files (fun q => q < w'.heap.size))

set_option maxHeartbeats 1000000 in
theorem clockQ_any (L : SQLaw SQ B) (K : HearQ SQ ask may B) (h : LQ SQ B S w b pv vt va T s A tn sq x) (hf : s.fin = 0) (hm : may 1 0) :
    Calls Tryz.prog 127 #[.pointer (some ⟨b, 0, none⟩)] w fun e w' => e = .returned (.tuple #[]) ∧ LPostS SQ B S w b pv vt va A tn sq (ckS s (ask x 1 0).1) (ask x 1 0).2 w' := by
  have hc := K.calls h hf hm
  generalize ask x 1 0 = R at *
  obtain ⟨⟨rk, ro, rn, rf, re⟩, x'⟩ := R
  have HC := hide hc
  have hinB := h.inB
  have HIN := hide hinB
  clear hc h hm hinB
  go_enter Tryz.func127, Tryz.ntmps127
  go_wp2_with fail
  go_at_call 141
  refine (unhide HC).mono ?_
  rintro e w1 ⟨kd, of_, n, fa, fl, fc, rfl, ⟨S1, pv1, T1, h1, hp1, f1⟩, hn⟩
  have ha := h1.alloc L (.cells #[.int .i64 kd, .int .i64 of_, .int .i64 n, .slice fa fl fc] 49)
  have fa1 := f1.alloc (.cells #[.int .i64 kd, .int .i64 of_, .int .i64 n, .slice fa fl fc] 49)
  have k27 := (h1.cell 27 (by omega)).trans (by rw [limg_fin])
  have z27 := h1.free 27 (by omega)
  have k14 := (h1.cell 14 (by omega)).trans (by rw [limg_clock])
  have z14 := h1.free 14 (by omega)
  have hb := h1.blt
  have hne : b ≠ w1.heap.size := by omega
  have hne' : ¬ w1.heap.size = b := by omega
  have HA := hide ha
  have FA := hide fa1
  have HN := hide hn
  have HP := hide hp1
  have IN1 := hide h1.inB
  clear ha fa1 hn h1 f1 hp1 HC
  by_cases hre : re = 0
  · have e0 : hearS s ⟨rk, ro, rn, rf, re⟩ = { s with heard := wrap64 (s.heard + 1) } := by unfold hearS; rw [if_pos hre]
    rw [e0] at HA k27 k14
    have hnn : n = rn := (unhide HN hre).1
    subst hnn
    have k27' : w1.cell? ⟨b, 27, none⟩ = some (.int .i64 0) := by rw [k27]; show some (Value.int .i64 s.fin) = _; rw [hf]
    change w1.cell? ⟨b, 14, none⟩ = some (.int .i64 s.clock) at k14
    clear k27 e0 HN
    by_cases hlt : n < s.clock
    · have e2 : ckS s ⟨rk, ro, n, rf, re⟩ = { s with heard := wrap64 (s.heard + 1), fin := 4 } := by simp [ckS, hre, hlt]
      have E2 := hide e2
      clear e2
      go_wp2
      go_quiet (fail)
      go_wp2
      refine bodyPost_ret (v := .tuple #[]) (by simp [results, Tryz.results127, go_sem]) rfl ⟨rfl, ?_⟩
      rw [unhide E2]
      exact ⟨S1, pv1, T1, ((unhide HA).drewN L _).set L 27 _ _ (by omega) (lset_fin 4) rfl ((unhide HA).rel.of rfl rfl) rfl, unhide HP, ((unhide FA).drewN _).setCell _ _ (.inl (unhide HIN))⟩
    · have e2 : ckS s ⟨rk, ro, n, rf, re⟩ = { s with heard := wrap64 (s.heard + 1), clock := n } := by simp [ckS, hre, hlt]
      have E2 := hide e2
      clear e2
      go_wp2
      go_quiet (fail)
      go_wp2
      go_end0
      refine ⟨rfl, ?_⟩
      rw [unhide E2]
      exact ⟨S1, pv1, T1, ((unhide HA).drewN L _).set L 14 _ _ (by omega) (lset_clock n) rfl ((unhide HA).rel.of rfl rfl) rfl, unhide HP, ((unhide FA).drewN _).setCell _ _ (.inl (unhide HIN))⟩
  · have e0 : hearS s ⟨rk, ro, rn, rf, re⟩ = { s with fin := re } := by unfold hearS; rw [if_neg hre]
    have e2 : ckS s ⟨rk, ro, rn, rf, re⟩ = { s with fin := re } := by simp [ckS, hre]
    rw [e0] at HA k27
    have E2 := hide e2
    change w1.cell? ⟨b, 27, none⟩ = some (.int .i64 re) at k27
    clear k14 z14 e0 e2 HN
    go_wp2
    refine bodyPost_ret (v := .tuple #[]) (by simp [results, Tryz.results127, go_sem]) rfl ⟨rfl, ?_⟩
    rw [unhide E2]
    exact ⟨S1, pv1, T1, unhide HA, unhide HP, unhide FA⟩
end
end Go.Proofs.YtfmbebofllgmoaaGreatDoor
namespace Go.Proofs.YtfmbebofllgmoaaGreatDoor
open Go.RowKit
attribute [local go_sem ↓] Go.wp_at_zero Go.wp_at_succ

theorem rmod_arith (n of : Int) (h1 : 1 ≤ of) (h2 : of ≤ 1000000) : (n.tmod of < 0 → wrap64 (n.tmod of + of) = n % of) ∧ (¬ n.tmod of < 0 → n.tmod of = n % of) := by
  have b1 : n.tmod of < of := Int.tmod_lt_of_pos n (by omega)
  have b2 : -of < n.tmod of := by
    have := Int.tmod_lt_of_pos (-n) (show 0 < of by omega)
    rw [Int.neg_tmod] at this
    omega
  have e : wrap64 (n.tmod of + of) = n.tmod of + of := by unfold wrap64; omega
  have h3 := mod_arith n of h1 h2
  rw [e] at h3
  constructor
  · intro h
    have h5 := Int.tmod_eq_of_lt (a := n.tmod of + of) (b := of) (by omega) (by omega)
    rw [e]
    exact h5.symm.trans h3
  · intro h
    have h4 : n % of = (n.tmod of) % of := by rw [Int.tmod_def, Int.sub_mul_emod_self_left]
    rw [h4, Int.emod_eq_of_lt (by omega) (by omega)]

theorem rmodulo_any (n of : Int) (w : World) (h1 : 1 ≤ of) (h2 : of ≤ 1000000) : Calls Tryz.prog 158 #[.int .i64 n, .int .i64 of] w fun e w' => e = .returned (.int .i64 (n % of)) ∧ w' = w := by
  have hne : (of == 0) = false := by simp; omega
  have hne' : of ≠ 0 := by omega
  obtain ⟨r1, r2⟩ := rmod_arith n of h1 h2
  have R1 := hide r1
  have R2 := hide r2
  clear r1 r2
  by_cases hlt : n.tmod of < 0
  · go_enter Tryz.func158, Tryz.ntmps158
    go_wp2
    go_ret
    rw [← unhide R1 hlt]
    exact ⟨rfl, rfl⟩
  · go_enter Tryz.func158, Tryz.ntmps158
    go_wp2
    go_ret
    rw [← unhide R2 hlt]
    exact ⟨rfl, rfl⟩

theorem namedB_succ (l : List Int) (k j : Nat) (hk : k < l.length) : namedB (l.take (k + 1)) j = (namedB (l.take k) j || (l[k] == (j : Int))) := by
  unfold namedB
  rw [List.take_succ_eq_append_getElem hk]
  simp only [List.contains_eq_any_beq, List.any_append, List.any_cons, List.any_nil, Bool.or_false]
  congr 1
  by_cases e : (j : Int) = l[k]
  · simp [e]
  · have e' : l[k] ≠ (j : Int) := fun h => e h.symm
    rw [beq_eq_false_iff_ne.2 e, beq_eq_false_iff_ne.2 e']

set_option maxHeartbeats 2000000 in
theorem rfiles_any {w : World} {v : Value} {l : List Int} {P : Nat → Prop} (hP : ∀ q, P q → q < w.heap.size) (hl : IntsIn w v l P) (hn : l.length ≤ 100000000) :
    Calls Tryz.prog 157 #[v] w fun e w' => ∃ v', e = .returned v' ∧ OwnI w' w.heap.size v' (filesL l) ∧ Fr (fun _ => False) w w' (fun _ => False) := by
  obtain ⟨a, c, rfl, hc⟩ := hl
  have HC := hide hc
  have HP := hide hP
  clear hc hP
  go_enter Tryz.func157, Tryz.ntmps157
  go_wp2
  go_loopw [3, 4] (fun u i wr => ∃ k : Nat, k ≤ 8 ∧ i = .int .i64 k ∧ OwnI wr w.heap.size u (filesK (namedB l) k) ∧ Fr (fun _ => False) w wr (fun _ => False)) (fun _ i _ => 8 - (intOf i).toNat)
  case atStart => exact ⟨0, Nat.zero_le _, rfl, World.ownsRow_nil _ _ _ _, Fr.refl _ w⟩
  case round =>
    obtain ⟨k, hk, rfl, ho, hf⟩ := hrel
    by_cases hlt : k < 8
    · have HSU := hide (filesK_succ (namedB l) k)
      have HLE := hide (show (filesK (namedB l) k).length ≤ 1000 by have := filesK_length (namedB l) k; omega)
      have hsz : w.heap.size ≤ wr.heap.size := hf.size
      have HO := hide ho
      have HNE := hide ho.lt
      have HF := hide hf
      clear ho hf
      go_wp2
      go_loopw [5, 6] (fun b i wr' => wr' = wr ∧ ∃ m : Nat, m ≤ l.length ∧ i = .int .i64 m ∧ b = .bool (namedB (l.take m) k)) (fun _ i _ => l.length - (intOf i).toNat)
      case atStart => exact ⟨rfl, 0, Nat.zero_le _, rfl, rfl⟩
      case round =>
        obtain ⟨rfl, m, hm, rfl, rfl⟩ := hrel
        by_cases hlm : m < l.length
        · rcases unhide HC with hz | ⟨q, off, rfl, hq, hcell⟩
          · rw [hz] at hlm; simp at hlm
          have cz := ((unhide HF).cell q (off + m) (unhide HP q hq) (fun h => h)).trans (hcell m hlm)
          have hget : l.getD m 0 = l[m] := by simp [List.getD, hlm]
          rw [hget] at cz
          have HNS := hide (namedB_succ l m k hlm)
          clear hcell hget
          generalize l[m] = z at *
          cases hb : namedB (l.take m) k
          · go_wp2
            go_roundw
            case rel =>
              refine ⟨trivial, m + 1, by omega, by go_num, ?_⟩
              rw [unhide HNS, hb]
              simp
            case measure => simp [intOf]; omega
          · go_wp2
            go_roundw
            case rel =>
              refine ⟨trivial, m + 1, by omega, by go_num, ?_⟩
              rw [unhide HNS, hb]
              simp
            case measure => simp [intOf]; omega
        · have e : l.take m = l := List.take_of_length_le (by omega)
          rw [e]
          cases hfk : namedB l k
          · go_wp2
            go_roundw
            case rel =>
              refine ⟨k + 1, by omega, by go_num, ?_, unhide HF⟩
              rw [unhide HSU, hfk]
              simpa using unhide HO
            case measure => simp [intOf]; omega
          · go_wp2_with (at_builtin; refine wpList_int rfl (.tmp 27) (.tmp 29) rfl rfl rfl (unhide HO) (unhide HLE) hsz ?_; intro v' w' o' g')
            go_roundw
            case rel =>
              refine ⟨k + 1, by omega, by go_num, ?_, ((unhide HF).alloc _).grown g' (fun j hj => ((unhide HNE) j hj).1)⟩
              rw [unhide HSU, hfk]
              simpa using o'
            case measure => simp [intOf]; omega
    · obtain rfl : k = 8 := by omega
      go_wp2
      go_ret
      exact ⟨_, rfl, ho, hf⟩
end Go.Proofs.YtfmbebofllgmoaaGreatDoor
namespace Go.Proofs.YtfmbebofllgmoaaGreatDoor
open Go.RowKit
attribute [local go_sem ↓] Go.wp_at_zero Go.wp_at_succ

/-- Values in memory, in a block of P, with a capacity that is one. -/
def ValsC (w : World) (v : Value) (l : List Value) (P : Nat → Prop) : Prop :=
  ∃ a c, v = .slice a l.length c ∧ l.length ≤ c ∧ (l = [] ∨ ∃ q off, a = some ⟨q, off, none⟩ ∧ P q ∧ ∀ i, i < l.length → w.cell? ⟨q, off + i, none⟩ = some (l.getD i undef))
/-- Numbers. -/
def IntsC (w : World) (v : Value) (l : List Int) (P : Nat → Prop) : Prop := ValsC w v (l.map (.int .i64)) P
/-- Lists of numbers. -/
def BatsC (w : World) (v : Value) (ls : List (List Int)) (P : Nat → Prop) : Prop :=
  ∃ vals : List Value, ValsC w v vals P ∧ vals.length = ls.length ∧ ∀ (i : Nat) (u : Value) (l : List Int), vals[i]? = some u → ls[i]? = some l → IntsIn w u l P
theorem ValsC.keep {w w' : World} {v : Value} {l : List Value} {P : Nat → Prop} (h : ValsC w v l P) (hk : ∀ q, P q → w'.heap[q]? = w.heap[q]?) : ValsC w' v l P := by
  obtain ⟨a, c, hv, hc, hl⟩ := h
  refine ⟨a, c, hv, hc, hl.imp id ?_⟩
  rintro ⟨q, off, ha, hq, hcc⟩
  exact ⟨q, off, ha, hq, fun i hi => (World.cell?_of_block (w := w) (a := ⟨q, off + i, none⟩) (hk q hq)).trans (hcc i hi)⟩
theorem BatsC.keep {w w' : World} {v : Value} {ls : List (List Int)} {P : Nat → Prop} (h : BatsC w v ls P) (hk : ∀ q, P q → w'.heap[q]? = w.heap[q]?) : BatsC w' v ls P := by
  obtain ⟨vals, h1, h2, h3⟩ := h
  exact ⟨vals, h1.keep hk, h2, fun i u l hu hl => intsIn_kept (h3 i u l hu hl) hk (fun _ h => h)⟩
/-- The first, and the rest. -/
theorem ValsC.cons {w : World} {v u : Value} {r : List Value} {P : Nat → Prop} (h : ValsC w v (u :: r) P) : ∃ q off c, v = .slice (some ⟨q, off, none⟩) (r.length + 1) c ∧ r.length + 1 ≤ c ∧ P q ∧ w.cell? ⟨q, off, none⟩ = some u ∧ ValsC w (.slice (if c = 1 then some ⟨q, off, none⟩ else some ⟨q, off + 1, none⟩) r.length (c - 1)) r P := by
  obtain ⟨a, c, hv, hc, hl⟩ := h
  rcases hl with h0 | ⟨q, off, rfl, hq, hcc⟩
  · cases h0
  refine ⟨q, off, c, hv, hc, hq, hcc 0 (by simp), _, c - 1, rfl, by simp at hc ⊢; omega, ?_⟩
  by_cases h1 : c = 1
  · left
    simp at hc
    exact List.eq_nil_of_length_eq_zero (by omega)
  · right
    refine ⟨q, off + 1, by rw [if_neg h1], hq, fun i hi => ?_⟩
    have := hcc (i + 1) (by simp; omega)
    rw [show off + 1 + i = off + (i + 1) by omega, this]
    rfl
theorem ValsC.nil {w : World} {v : Value} {P : Nat → Prop} (h : ValsC w v [] P) : ∃ a c, v = .slice a 0 c := by
  obtain ⟨a, c, hv, _⟩ := h
  exact ⟨a, c, hv⟩

theorem world_fr {w : World} {b j : Nat} {c : Nat → Value} {v : Value} (hc : LAt w b c) (hj : j < 28) (o1 o2 : Obj) : LAt (((w.setCell ⟨b, j, none⟩ v).alloc o1).alloc o2) b (setC c j v) ∧ Fr (fun q => q = b) w (((w.setCell ⟨b, j, none⟩ v).alloc o1).alloc o2) (fun q => q = b) := by
  have hb : b < w.heap.size := World.block_lt_of_cell? _ _ (hc 0 (by omega)).1
  have h1 := hc.set j v hj
  have hz : (w.setCell ⟨b, j, none⟩ v).heap.size = w.heap.size := by simp [World.setCell]
  have e : (((w.setCell ⟨b, j, none⟩ v).alloc o1).alloc o2).heap[b]? = (w.setCell ⟨b, j, none⟩ v).heap[b]? := (Below.heap_alloc _ _ _ (by simp [World.setCell]; omega)).trans (Below.heap_alloc _ _ _ (by rw [hz]; exact hb))
  exact ⟨h1.block e, (((Fr.refl (fun q => q = b) w).setCell ⟨b, j, none⟩ v (.inl rfl)).alloc o1).alloc o2⟩
theorem LAt.other {w : World} {b q j : Nat} {c : Nat → Value} {v : Value} (h : LAt w b c) (hq : ¬ b = q) : LAt (w.setCell ⟨q, j, none⟩ v) b c := h.block (Below.heap_setCell _ _ _ _ hq)
/-- What comes of a question to the world that is answered. -/
def WAns (w : World) (b : Nat) (c : Nat → Value) (k o n : Int) (fl : List Int) (j : Nat) (v' : Value) (e : Ending) (w' : World) : Prop :=
  ∃ fv, e = .returned (.tuple #[.agg #[.int .i64 k, .int .i64 o, .int .i64 n, fv], .bool true]) ∧ LAt w' b (setC c j v') ∧ Fr (fun q => q = b) w w' (fun q => q = b) ∧ OwnI w' w.heap.size fv fl
set_option maxHeartbeats 2000000 in
theorem world1 {w : World} {b : Nat} {c : Nat → Value} {P : Nat → Prop} (hcells : LAt w b c) (hP : ∀ q, P q → q < w.heap.size ∧ q ≠ b) {z : Int} {r : List Int} (hl : IntsC w (c 3) (z :: r) P) :
    ∃ v', IntsC w v' r P ∧ Calls Tryz.prog 146 #[.pointer (some ⟨b, 0, none⟩), .int .i64 1, .int .i64 0] w (WAns w b c 1 0 (clampC z) [] 3 v') := by
  obtain ⟨q, off, cp, hv, hcp, hq, hz, ht⟩ := ValsC.cons hl
  refine ⟨_, ht, ?_⟩
  have hb : b < w.heap.size := World.block_lt_of_cell? _ _ (hcells 0 (by omega)).1
  have c3 := (hcells 3 (by omega)).1
  have z3 := (hcells 3 (by omega)).2
  rw [hv] at c3
  obtain ⟨hq1, hq2⟩ := hP q hq
  rw [List.length_map] at c3 hcp ⊢
  rw [show clampC z = min (max z 0) 1099511627776 from rfl]
  have HC := hide hcells
  clear ht hcells hl hv
  by_cases h1 : cp = 1
  · subst h1
    obtain rfl : r = [] := List.eq_nil_of_length_eq_zero (by omega)
    rw [if_pos rfl]
    go_enter Tryz.func146, Tryz.ntmps146
    go_wp2
    refine bodyPost_ret (v := .tuple #[.agg #[.int .i64 1, .int .i64 0, .int .i64 (min (max z 0) 1099511627776), .slice none 0 0], .bool true]) (by simp [results, Tryz.results146, go_sem]) rfl ?_
    obtain ⟨g1, g2⟩ := world_fr (v := (.slice (some ⟨q, off, none⟩) 0 0)) (unhide HC) (j := 3) (by omega) (.cells #[.int .i64 1, .int .i64 0, .int .i64 (min (max z 0) 1099511627776), .slice none 0 0] 49) (.cells #[.int .i64 1, .int .i64 0, .int .i64 (min (max z 0) 1099511627776), .slice none 0 0] 49)
    exact ⟨_, rfl, g1, g2, World.ownsRow_nil _ _ _ _⟩
  · rw [if_neg h1]
    go_enter Tryz.func146, Tryz.ntmps146
    go_wp2
    refine bodyPost_ret (v := .tuple #[.agg #[.int .i64 1, .int .i64 0, .int .i64 (min (max z 0) 1099511627776), .slice none 0 0], .bool true]) (by simp [results, Tryz.results146, go_sem]) rfl ?_
    obtain ⟨g1, g2⟩ := world_fr (v := (.slice (some ⟨q, off + 1, none⟩) r.length (cp - 1))) (unhide HC) (j := 3) (by omega) (.cells #[.int .i64 1, .int .i64 0, .int .i64 (min (max z 0) 1099511627776), .slice none 0 0] 49) (.cells #[.int .i64 1, .int .i64 0, .int .i64 (min (max z 0) 1099511627776), .slice none 0 0] 49)
    exact ⟨_, rfl, g1, g2, World.ownsRow_nil _ _ _ _⟩
set_option maxHeartbeats 2000000 in
theorem world3 {w : World} {b : Nat} {c : Nat → Value} {P : Nat → Prop} (hcells : LAt w b c) (hP : ∀ q, P q → q < w.heap.size ∧ q ≠ b) (o : Int) (ho1 : 1 ≤ o) (ho2 : o ≤ 1000000) {z : Int} {r : List Int} (hl : IntsC w (c 5) (z :: r) P) :
    ∃ v', IntsC w v' r P ∧ Calls Tryz.prog 146 #[.pointer (some ⟨b, 0, none⟩), .int .i64 3, .int .i64 o] w (WAns w b c 3 o (z % o) [] 5 v') := by
  obtain ⟨q, off, cp, hv, hcp, hq, hz, ht⟩ := ValsC.cons hl
  refine ⟨_, ht, ?_⟩
  have hb : b < w.heap.size := World.block_lt_of_cell? _ _ (hcells 0 (by omega)).1
  have c3 := (hcells 5 (by omega)).1
  have z3 := (hcells 5 (by omega)).2
  rw [hv] at c3
  obtain ⟨hq1, hq2⟩ := hP q hq
  rw [List.length_map] at c3 hcp ⊢
  have HM := hide (rmodulo_any z o)
  have ho1a : (1 : Int) ≤ o := ho1
  have HC := hide hcells
  clear ht hcells hl hv
  by_cases h1 : cp = 1
  · subst h1
    obtain rfl : r = [] := List.eq_nil_of_length_eq_zero (by omega)
    rw [if_pos rfl]
    go_enter Tryz.func146, Tryz.ntmps146
    go_wp2_with (go_at_call 158; refine (unhide HM _ ho1 ho2).mono ?_; rintro e w2 ⟨rfl, hw2⟩; rw [hw2]; clear hw2 w2)
    refine bodyPost_ret (v := .tuple #[.agg #[.int .i64 3, .int .i64 o, .int .i64 (z % o), .slice none 0 0], .bool true]) (by simp [results, Tryz.results146, go_sem]) rfl ?_
    obtain ⟨g1, g2⟩ := world_fr (v := (.slice (some ⟨q, off, none⟩) 0 0)) (unhide HC) (j := 5) (by omega) (.cells #[.int .i64 3, .int .i64 o, .int .i64 (z % o), .slice none 0 0] 49) (.cells #[.int .i64 3, .int .i64 o, .int .i64 (z % o), .slice none 0 0] 49)
    exact ⟨_, rfl, g1, g2, World.ownsRow_nil _ _ _ _⟩
  · rw [if_neg h1]
    go_enter Tryz.func146, Tryz.ntmps146
    go_wp2_with (go_at_call 158; refine (unhide HM _ ho1 ho2).mono ?_; rintro e w2 ⟨rfl, hw2⟩; rw [hw2]; clear hw2 w2)
    refine bodyPost_ret (v := .tuple #[.agg #[.int .i64 3, .int .i64 o, .int .i64 (z % o), .slice none 0 0], .bool true]) (by simp [results, Tryz.results146, go_sem]) rfl ?_
    obtain ⟨g1, g2⟩ := world_fr (v := (.slice (some ⟨q, off + 1, none⟩) r.length (cp - 1))) (unhide HC) (j := 5) (by omega) (.cells #[.int .i64 3, .int .i64 o, .int .i64 (z % o), .slice none 0 0] 49) (.cells #[.int .i64 3, .int .i64 o, .int .i64 (z % o), .slice none 0 0] 49)
    exact ⟨_, rfl, g1, g2, World.ownsRow_nil _ _ _ _⟩
set_option maxHeartbeats 2000000 in
theorem world4 {w : World} {b : Nat} {c : Nat → Value} {P : Nat → Prop} (hcells : LAt w b c) (hP : ∀ q, P q → q < w.heap.size ∧ q ≠ b) (o : Int) (ho1 : 1 ≤ o) (ho2 : o ≤ 1000000) {z : Int} {r : List Int} (hl : IntsC w (c 6) (z :: r) P) :
    ∃ v', IntsC w v' r P ∧ Calls Tryz.prog 146 #[.pointer (some ⟨b, 0, none⟩), .int .i64 4, .int .i64 o] w (WAns w b c 4 o (z % o) [] 6 v') := by
  obtain ⟨q, off, cp, hv, hcp, hq, hz, ht⟩ := ValsC.cons hl
  refine ⟨_, ht, ?_⟩
  have hb : b < w.heap.size := World.block_lt_of_cell? _ _ (hcells 0 (by omega)).1
  have c3 := (hcells 6 (by omega)).1
  have z3 := (hcells 6 (by omega)).2
  rw [hv] at c3
  obtain ⟨hq1, hq2⟩ := hP q hq
  rw [List.length_map] at c3 hcp ⊢
  have HM := hide (rmodulo_any z o)
  have ho1a : (1 : Int) ≤ o := ho1
  have HC := hide hcells
  clear ht hcells hl hv
  by_cases h1 : cp = 1
  · subst h1
    obtain rfl : r = [] := List.eq_nil_of_length_eq_zero (by omega)
    rw [if_pos rfl]
    go_enter Tryz.func146, Tryz.ntmps146
    go_wp2_with (go_at_call 158; refine (unhide HM _ ho1 ho2).mono ?_; rintro e w2 ⟨rfl, hw2⟩; rw [hw2]; clear hw2 w2)
    refine bodyPost_ret (v := .tuple #[.agg #[.int .i64 4, .int .i64 o, .int .i64 (z % o), .slice none 0 0], .bool true]) (by simp [results, Tryz.results146, go_sem]) rfl ?_
    obtain ⟨g1, g2⟩ := world_fr (v := (.slice (some ⟨q, off, none⟩) 0 0)) (unhide HC) (j := 6) (by omega) (.cells #[.int .i64 4, .int .i64 o, .int .i64 (z % o), .slice none 0 0] 49) (.cells #[.int .i64 4, .int .i64 o, .int .i64 (z % o), .slice none 0 0] 49)
    exact ⟨_, rfl, g1, g2, World.ownsRow_nil _ _ _ _⟩
  · rw [if_neg h1]
    go_enter Tryz.func146, Tryz.ntmps146
    go_wp2_with (go_at_call 158; refine (unhide HM _ ho1 ho2).mono ?_; rintro e w2 ⟨rfl, hw2⟩; rw [hw2]; clear hw2 w2)
    refine bodyPost_ret (v := .tuple #[.agg #[.int .i64 4, .int .i64 o, .int .i64 (z % o), .slice none 0 0], .bool true]) (by simp [results, Tryz.results146, go_sem]) rfl ?_
    obtain ⟨g1, g2⟩ := world_fr (v := (.slice (some ⟨q, off + 1, none⟩) r.length (cp - 1))) (unhide HC) (j := 6) (by omega) (.cells #[.int .i64 4, .int .i64 o, .int .i64 (z % o), .slice none 0 0] 49) (.cells #[.int .i64 4, .int .i64 o, .int .i64 (z % o), .slice none 0 0] 49)
    exact ⟨_, rfl, g1, g2, World.ownsRow_nil _ _ _ _⟩
set_option maxHeartbeats 2000000 in
theorem world1n {w : World} {b : Nat} {c : Nat → Value} {P : Nat → Prop} (hcells : LAt w b c) (hl : ValsC w (c 3) [] P) :
    Calls Tryz.prog 146 #[.pointer (some ⟨b, 0, none⟩), .int .i64 1, .int .i64 0] w fun e w' => e = .returned (.tuple #[.agg #[.int .i64 1, .int .i64 0, .int .i64 0, .slice none 0 0], .bool false]) ∧ Fr (fun _ => False) w w' (fun _ => False) := by
  obtain ⟨a, cp, hv⟩ := hl.nil
  have hb : b < w.heap.size := World.block_lt_of_cell? _ _ (hcells 0 (by omega)).1
  have c3 := (hcells 3 (by omega)).1
  rw [hv] at c3
  clear hl hcells hv
  go_enter Tryz.func146, Tryz.ntmps146
  go_wp2
  refine bodyPost_ret (v := .tuple #[.agg #[.int .i64 1, .int .i64 0, .int .i64 0, .slice none 0 0], .bool false]) (by simp [results, Tryz.results146, go_sem]) rfl ⟨rfl, ?_⟩
  exact ((Fr.refl _ _).alloc _).alloc _
set_option maxHeartbeats 2000000 in
theorem world2n {w : World} {b : Nat} {c : Nat → Value} {P : Nat → Prop} (hcells : LAt w b c) (hl : ValsC w (c 4) [] P) :
    Calls Tryz.prog 146 #[.pointer (some ⟨b, 0, none⟩), .int .i64 2, .int .i64 0] w fun e w' => e = .returned (.tuple #[.agg #[.int .i64 2, .int .i64 0, .int .i64 0, .slice none 0 0], .bool false]) ∧ Fr (fun _ => False) w w' (fun _ => False) := by
  obtain ⟨a, cp, hv⟩ := hl.nil
  have hb : b < w.heap.size := World.block_lt_of_cell? _ _ (hcells 0 (by omega)).1
  have c3 := (hcells 4 (by omega)).1
  rw [hv] at c3
  clear hl hcells hv
  go_enter Tryz.func146, Tryz.ntmps146
  go_wp2
  refine bodyPost_ret (v := .tuple #[.agg #[.int .i64 2, .int .i64 0, .int .i64 0, .slice none 0 0], .bool false]) (by simp [results, Tryz.results146, go_sem]) rfl ⟨rfl, ?_⟩
  exact ((Fr.refl _ _).alloc _).alloc _
set_option maxHeartbeats 2000000 in
theorem world3n {w : World} {b : Nat} {c : Nat → Value} {P : Nat → Prop} (hcells : LAt w b c) (o : Int) (hl : ValsC w (c 5) [] P) :
    Calls Tryz.prog 146 #[.pointer (some ⟨b, 0, none⟩), .int .i64 3, .int .i64 o] w fun e w' => e = .returned (.tuple #[.agg #[.int .i64 3, .int .i64 o, .int .i64 0, .slice none 0 0], .bool false]) ∧ Fr (fun _ => False) w w' (fun _ => False) := by
  obtain ⟨a, cp, hv⟩ := hl.nil
  have hb : b < w.heap.size := World.block_lt_of_cell? _ _ (hcells 0 (by omega)).1
  have c3 := (hcells 5 (by omega)).1
  rw [hv] at c3
  clear hl hcells hv
  go_enter Tryz.func146, Tryz.ntmps146
  go_wp2
  refine bodyPost_ret (v := .tuple #[.agg #[.int .i64 3, .int .i64 o, .int .i64 0, .slice none 0 0], .bool false]) (by simp [results, Tryz.results146, go_sem]) rfl ⟨rfl, ?_⟩
  exact ((Fr.refl _ _).alloc _).alloc _
set_option maxHeartbeats 2000000 in
theorem world4n {w : World} {b : Nat} {c : Nat → Value} {P : Nat → Prop} (hcells : LAt w b c) (o : Int) (hl : ValsC w (c 6) [] P) :
    Calls Tryz.prog 146 #[.pointer (some ⟨b, 0, none⟩), .int .i64 4, .int .i64 o] w fun e w' => e = .returned (.tuple #[.agg #[.int .i64 4, .int .i64 o, .int .i64 0, .slice none 0 0], .bool false]) ∧ Fr (fun _ => False) w w' (fun _ => False) := by
  obtain ⟨a, cp, hv⟩ := hl.nil
  have hb : b < w.heap.size := World.block_lt_of_cell? _ _ (hcells 0 (by omega)).1
  have c3 := (hcells 6 (by omega)).1
  rw [hv] at c3
  clear hl hcells hv
  go_enter Tryz.func146, Tryz.ntmps146
  go_wp2
  refine bodyPost_ret (v := .tuple #[.agg #[.int .i64 4, .int .i64 o, .int .i64 0, .slice none 0 0], .bool false]) (by simp [results, Tryz.results146, go_sem]) rfl ⟨rfl, ?_⟩
  exact ((Fr.refl _ _).alloc _).alloc _
set_option maxHeartbeats 2000000 in
theorem world2 {w : World} {b : Nat} {c : Nat → Value} {P : Nat → Prop} (hcells : LAt w b c) (hP : ∀ q, P q → q < w.heap.size ∧ q ≠ b) {l0 : List Int} {r : List (List Int)} (hlen : l0.length ≤ 100000000) (hl : BatsC w (c 4) (l0 :: r) P) :
    ∃ v', BatsC w v' r P ∧ Calls Tryz.prog 146 #[.pointer (some ⟨b, 0, none⟩), .int .i64 2, .int .i64 0] w (WAns w b c 2 0 0 (filesL l0) 4 v') := by
  obtain ⟨vals, hvals, hvl, hall⟩ := hl
  cases vals with
  | nil => simp at hvl
  | cons u us =>
    obtain ⟨q, off, cp, hv, hcp, hq, hz, ht⟩ := ValsC.cons hvals
    refine ⟨_, ⟨us, ht, by simpa using hvl, fun i x l hx hl => hall (i + 1) x l (by simpa using hx) (by simpa using hl)⟩, ?_⟩
    have hu := hall 0 u l0 rfl rfl
    have hb : b < w.heap.size := World.block_lt_of_cell? _ _ (hcells 0 (by omega)).1
    have c3 := (hcells 4 (by omega)).1
    have z3 := (hcells 4 (by omega)).2
    rw [hv] at c3
    obtain ⟨hq1, hq2⟩ := hP q hq
    have hFF : ∀ W : World, Fr (fun _ => False) w W (fun _ => False) → Calls Tryz.prog 157 #[u] W fun e w' => ∃ v', e = .returned v' ∧ OwnI w' W.heap.size v' (filesL l0) ∧ Fr (fun _ => False) W w' (fun _ => False) := fun W hW =>
      rfiles_any (P := P) (fun q hq => Nat.lt_of_lt_of_le (hP q hq).1 hW.size) (intsIn_kept hu (fun q hq => hW.same q (hP q hq).1 (fun h => h)) (fun _ h => h)) hlen
    obtain ⟨ua, uc, hue, hud⟩ := hu
    clear hud
    subst hue
    have HFF := hide hFF
    have HC := hide hcells
    have f2 : Fr (fun _ => False) w ((w.alloc (.cells #[.int .i64 0, .int .i64 0, .int .i64 0, .slice none 0 0] 49)).alloc (.cells #[.int .i64 2, .int .i64 0, .int .i64 0, .slice none 0 0] 49)) (fun _ => False) := ((Fr.refl _ _).alloc _).alloc _
    clear ht hcells hvals hall hvl hFF
    by_cases h1 : cp = 1
    · subst h1
      obtain rfl : us = [] := List.eq_nil_of_length_eq_zero (by omega)
      rw [if_pos rfl]
      go_enter Tryz.func146, Tryz.ntmps146
      go_wp2_with fail
      go_at_call 157
      refine (unhide HFF _ f2).mono ?_
      rintro e w2 ⟨fv, rfl, o2, g2⟩
      obtain ⟨va, vc, hfv⟩ := ownI_slice o2
      subst hfv
      have x6 : w2.heap[w.heap.size]? = some (.cells #[.int .i64 0, .int .i64 0, .int .i64 0, .slice none 0 0] 49) := (g2.same _ (by simp; omega) (fun h => h)).trans ((Below.heap_alloc _ _ _ (by simp)).trans (heap_alloc_new _ _))
      have x8 : w2.heap[w.heap.size + 1]? = some (.cells #[.int .i64 2, .int .i64 0, .int .i64 0, .slice none 0 0] 49) := (g2.same _ (by simp; try omega) (fun h => h)).trans (by
        have h := heap_alloc_new (w.alloc (.cells #[.int .i64 0, .int .i64 0, .int .i64 0, .slice none 0 0] 49)) (.cells #[.int .i64 2, .int .i64 0, .int .i64 0, .slice none 0 0] 49)
        rwa [show (w.alloc (.cells #[.int .i64 0, .int .i64 0, .int .i64 0, .slice none 0 0] 49)).heap.size = w.heap.size + 1 by simp] at h)
      have f02 := f2.trans g2
      have c3' := (f02.cell b 4 hb (fun h => h)).trans c3
      have z3' := (f02.frozen b 4 hb (fun h => h)).trans z3
      have k6 := fun j => cell_of_row w2 _ j _ 49 (0, 0) x6
      have t6 := fun j => frozen_rowE x6 j
      have k8 := fun j => cell_of_row w2 _ j _ 49 (0, 0) x8
      have t8 := fun j => frozen_rowE x8 j
      have l6 := (Array.getElem?_eq_some_iff.1 x6).1
      have l8 := (Array.getElem?_eq_some_iff.1 x8).1
      have n1 : ¬ b = w.heap.size := by omega
      have n2 : ¬ w.heap.size = b := by omega
      have n3 : ¬ b = w.heap.size + 1 := by omega
      have n4 : ¬ w.heap.size + 1 = b := by omega
      have hb2 : b < w2.heap.size := Nat.lt_of_lt_of_le hb f02.size
      have O2 := hide o2
      have F02 := hide f02
      clear o2 g2 f02 x6 x8 c3 z3 HFF
      go_wp2
      refine bodyPost_ret (v := .tuple #[.agg #[.int .i64 2, .int .i64 0, .int .i64 0, .slice va (filesL l0).length vc], .bool true]) (by simp [results, Tryz.results146, go_sem, k6]) rfl ?_
      refine ⟨_, rfl, ?_, ?_, ?_⟩
      · exact (((((((unhide HC).block ((unhide F02).same b hb (fun h => h))).other n3).set 4 _ (by omega)).other n1).other n1).other n1).other n1
      · exact (((((((unhide F02).widen (T := fun q => q = b) (fun q h => h.elim)).setCell ⟨w.heap.size + 1, 3, none⟩ _ (.inr (by show w.heap.size ≤ w.heap.size + 1; omega))).setCell ⟨b, 4, none⟩ _ (.inl rfl)).setCell ⟨w.heap.size, 0, none⟩ _ (.inr (Nat.le_refl _))).setCell ⟨w.heap.size, 1, none⟩ _ (.inr (Nat.le_refl _))).setCell ⟨w.heap.size, 2, none⟩ _ (.inr (Nat.le_refl _))).setCell ⟨w.heap.size, 3, none⟩ _ (.inr (Nat.le_refl _))
      · refine rowLow (ownsRow_of_block (unhide O2) (fun q hq => ?_)) (by simp; try omega)
        have hge := (World.ownsRow.lt (unhide O2) q hq).1
        have hge' : w.heap.size + 2 ≤ q := by simpa using hge
        exact (Below.heap_setCell _ _ _ _ (by show q ≠ w.heap.size; omega)).trans ((Below.heap_setCell _ _ _ _ (by show q ≠ w.heap.size; omega)).trans ((Below.heap_setCell _ _ _ _ (by show q ≠ w.heap.size; omega)).trans ((Below.heap_setCell _ _ _ _ (by show q ≠ w.heap.size; omega)).trans ((Below.heap_setCell _ _ _ _ (by show q ≠ b; omega)).trans (Below.heap_setCell _ _ _ _ (by show q ≠ w.heap.size + 1; omega))))))
    · rw [if_neg h1]
      go_enter Tryz.func146, Tryz.ntmps146
      go_wp2_with fail
      go_at_call 157
      refine (unhide HFF _ f2).mono ?_
      rintro e w2 ⟨fv, rfl, o2, g2⟩
      obtain ⟨va, vc, hfv⟩ := ownI_slice o2
      subst hfv
      have x6 : w2.heap[w.heap.size]? = some (.cells #[.int .i64 0, .int .i64 0, .int .i64 0, .slice none 0 0] 49) := (g2.same _ (by simp; omega) (fun h => h)).trans ((Below.heap_alloc _ _ _ (by simp)).trans (heap_alloc_new _ _))
      have x8 : w2.heap[w.heap.size + 1]? = some (.cells #[.int .i64 2, .int .i64 0, .int .i64 0, .slice none 0 0] 49) := (g2.same _ (by simp; try omega) (fun h => h)).trans (by
        have h := heap_alloc_new (w.alloc (.cells #[.int .i64 0, .int .i64 0, .int .i64 0, .slice none 0 0] 49)) (.cells #[.int .i64 2, .int .i64 0, .int .i64 0, .slice none 0 0] 49)
        rwa [show (w.alloc (.cells #[.int .i64 0, .int .i64 0, .int .i64 0, .slice none 0 0] 49)).heap.size = w.heap.size + 1 by simp] at h)
      have f02 := f2.trans g2
      have c3' := (f02.cell b 4 hb (fun h => h)).trans c3
      have z3' := (f02.frozen b 4 hb (fun h => h)).trans z3
      have k6 := fun j => cell_of_row w2 _ j _ 49 (0, 0) x6
      have t6 := fun j => frozen_rowE x6 j
      have k8 := fun j => cell_of_row w2 _ j _ 49 (0, 0) x8
      have t8 := fun j => frozen_rowE x8 j
      have l6 := (Array.getElem?_eq_some_iff.1 x6).1
      have l8 := (Array.getElem?_eq_some_iff.1 x8).1
      have n1 : ¬ b = w.heap.size := by omega
      have n2 : ¬ w.heap.size = b := by omega
      have n3 : ¬ b = w.heap.size + 1 := by omega
      have n4 : ¬ w.heap.size + 1 = b := by omega
      have hb2 : b < w2.heap.size := Nat.lt_of_lt_of_le hb f02.size
      have O2 := hide o2
      have F02 := hide f02
      clear o2 g2 f02 x6 x8 c3 z3 HFF
      go_wp2
      refine bodyPost_ret (v := .tuple #[.agg #[.int .i64 2, .int .i64 0, .int .i64 0, .slice va (filesL l0).length vc], .bool true]) (by simp [results, Tryz.results146, go_sem, k6]) rfl ?_
      refine ⟨_, rfl, ?_, ?_, ?_⟩
      · exact (((((((unhide HC).block ((unhide F02).same b hb (fun h => h))).other n3).set 4 _ (by omega)).other n1).other n1).other n1).other n1
      · exact (((((((unhide F02).widen (T := fun q => q = b) (fun q h => h.elim)).setCell ⟨w.heap.size + 1, 3, none⟩ _ (.inr (by show w.heap.size ≤ w.heap.size + 1; omega))).setCell ⟨b, 4, none⟩ _ (.inl rfl)).setCell ⟨w.heap.size, 0, none⟩ _ (.inr (Nat.le_refl _))).setCell ⟨w.heap.size, 1, none⟩ _ (.inr (Nat.le_refl _))).setCell ⟨w.heap.size, 2, none⟩ _ (.inr (Nat.le_refl _))).setCell ⟨w.heap.size, 3, none⟩ _ (.inr (Nat.le_refl _))
      · refine rowLow (ownsRow_of_block (unhide O2) (fun q hq => ?_)) (by simp; try omega)
        have hge := (World.ownsRow.lt (unhide O2) q hq).1
        have hge' : w.heap.size + 2 ≤ q := by simpa using hge
        exact (Below.heap_setCell _ _ _ _ (by show q ≠ w.heap.size; omega)).trans ((Below.heap_setCell _ _ _ _ (by show q ≠ w.heap.size; omega)).trans ((Below.heap_setCell _ _ _ _ (by show q ≠ w.heap.size; omega)).trans ((Below.heap_setCell _ _ _ _ (by show q ≠ w.heap.size; omega)).trans ((Below.heap_setCell _ _ _ _ (by show q ≠ b; omega)).trans (Below.heap_setCell _ _ _ _ (by show q ≠ w.heap.size + 1; omega))))))
end Go.Proofs.YtfmbebofllgmoaaGreatDoor
namespace Go.Proofs.YtfmbebofllgmoaaGreatDoor
open Go.RowKit

theorem info3v : (Tryz.prog.info? 3).map (fun i => (i.zero, i.size, i.bytes)) = some (some (.int .i64 0), 1, 8) := by kernel_rfl
theorem make_nums (n : Nat) (hn : n ≤ 1000000000) (w : World) : (Instr.makeSlice 26 (.int .i64 ((n : Int) + 4)) (.int .i64 ((n : Int) + 4))).run Tryz.prog w =
    .ok (.slice (some ⟨w.heap.size, 0, none⟩) (n + 4) (n + 4)) (w.alloc (.cells (madeCells #[.int .i64 0] (n + 4)) 3)) := by
  have h := info3v
  cases hi : Tryz.prog.info? 3 with
  | none => rw [hi] at h; cases h
  | some i =>
    rw [hi] at h
    simp only [Option.map_some, Option.some.injEq, Prod.mk.injEq] at h
    obtain ⟨hz, hs, hb⟩ := h
    have := run_make (P := Tryz.prog) w 26 3 i _ Tryz.underlying26 hi hz .i64 .i64 ((n : Int) + 4) ((n : Int) + 4) (by omega) (by omega) (by rw [hb]; omega) (by omega)
    rw [this, hs]
    have e : ((n : Int) + 4).toNat = n + 4 := by omega
    rw [e, Nat.mul_one]
    rfl

/-- A copy of l in block g, as far as it is made (k of l.length + 4). -/
structure OwnN (w : World) (g k : Nat) (l : List Int) : Prop where
  there : Writable w g (l.length + 4)
  cells : ∀ i, i < k → w.cell? ⟨g, i, none⟩ = some (.int .i64 (l.getD i 3))
theorem OwnN.below {w w' : World} {B g k : Nat} {l : List Int} (h : OwnN w g k l) (hb : Below B w w') (hg : g < B) : OwnN w' g k l :=
  ⟨h.there.below hb hg, fun i hi => (hb.cell (p := ⟨g, _, none⟩) hg).trans (h.cells i hi)⟩
theorem OwnN.setCell {w : World} {g k : Nat} {l : List Int} (h : OwnN w g k l) {a : Addr} (hne : a.block ≠ g) (v : Value) : OwnN (w.setCell a v) g k l :=
  ⟨h.there.setCell _ _, fun i hi => (World.cell?_setCell_other _ _ _ _ (fun he => hne (by rw [he]))).trans (h.cells i hi)⟩
theorem OwnN.step {w : World} {g k : Nat} {l : List Int} (h : OwnN w g k l) (hk : k < l.length + 4) {z : Int} (hz : z = l.getD k 3) : OwnN (w.setCell ⟨g, k, none⟩ (.int .i64 z)) g (k + 1) l := by
  refine ⟨h.there.setCell _ _, fun i hi => ?_⟩
  by_cases e : i = k
  · subst e; rw [World.cell?_setCell_same' _ _ _ (h.there _ hk).1, hz]
  · rw [World.cell?_setCell_other _ _ _ _ (by intro he; injection he; omega)]; exact h.cells i (by omega)
theorem OwnN.over {w : World} {g k : Nat} {l : List Int} (h : OwnN w g k l) (z : Int) : OwnN (w.setCell ⟨g, k, none⟩ (.int .i64 z)) g k l :=
  ⟨h.there.setCell _ _, fun i hi => (World.cell?_setCell_other _ _ _ _ (by intro he; injection he; omega)).trans (h.cells i hi)⟩
theorem OwnN.dr {w w' : World} {g k : Nat} {l : List Int} (hx : OwnN w g k l) (h : Dr w w') : OwnN w' g k l := by
  obtain ⟨m, rfl⟩ := h; exact ⟨hx.there, hx.cells⟩
theorem intsIn_dr {w w' : World} (h : Dr w w') {v : Value} {l : List Int} {P : Nat → Prop} (hx : IntsIn w v l P) : IntsIn w' v l P := by
  obtain ⟨m, rfl⟩ := h; exact hx

set_option maxHeartbeats 400000 in
theorem numbersL_any {v : Value} {l : List Int} {P : Nat → Prop} {w : World} (hP : ∀ q, P q → q < w.heap.size) (hv : IntsIn w v l P) (hn : l.length ≤ 1000000000) :
    Calls Tryz.prog 105 #[v] w fun e w' => e = .returned (.slice (some ⟨w.heap.size, 0, none⟩) l.length (l.length + 4)) ∧ Below w.heap.size w w' ∧ w.heap.size < w'.heap.size ∧ OwnN w' w.heap.size (l.length + 4) l := by
  obtain ⟨a, c, rfl, hf⟩ := hv
  have hmk := make_nums l.length hn
  have HF := hide hf
  have HP := hide hP
  clear hf hP
  go_enter Tryz.func105, Tryz.ntmps105
  go_wp2
  go_loopw [4] (fun i wr => ∃ k : Nat, k ≤ l.length + 4 ∧ i = .int .i64 k ∧ Below w.heap.size w wr ∧ w.heap.size < wr.heap.size ∧ OwnN wr w.heap.size k l) (fun i _ => l.length + 4 - (intOf i).toNat)
  case atStart => exact ⟨0, Nat.zero_le _, rfl, (Below.refl _ _).alloc (Nat.le_refl _) _, by simp, writable_made _ _ _ _, fun i hi => absurd hi (Nat.not_lt_zero _)⟩
  case round =>
    obtain ⟨k, hk, rfl, hb, hsz, ho⟩ := hrel
    by_cases hlt : k < l.length + 4
    · obtain ⟨t0, z0⟩ := ho.there k (by omega)
      obtain ⟨v0, c0⟩ := Option.isSome_iff_exists.1 t0
      have HO := hide ho
      clear ho t0
      by_cases hkn : k < l.length
      · rcases unhide HF with hz | ⟨b, off, rfl, hq, hf⟩
        · subst hz; simp at hkn
        have g0 := hf k hkn
        have hlt' : b < w.heap.size := unhide HP b hq
        rw [← hb.cell (p := ⟨b, _, none⟩) hlt'] at g0
        have hne : ¬ w.heap.size = b := by omega
        have hne' : ¬ b = w.heap.size := by omega
        have hge : l.getD k 0 = l.getD k 3 := by rw [List.getD_eq_getElem?_getD, List.getD_eq_getElem?_getD, List.getElem?_eq_getElem hkn]; rfl
        clear hf hq
        generalize l.getD k 0 = x at *
        have HX := hide hge
        clear hge
        go_wp2
        go_roundw
        case rel => exact ⟨k + 1, by omega, by go_num, (hb.setCell (by simp) _).setCell (by simp) _, by simpa using hsz, ((unhide HO).over 3).step hlt (unhide HX)⟩
        case measure => simp [intOf]; omega
      · go_wp2
        go_roundw
        case rel => exact ⟨k + 1, by omega, by go_num, hb.setCell (by simp) _, by simpa using hsz, (unhide HO).step hlt (by rw [List.getD_eq_getElem?_getD, List.getElem?_eq_none (by omega)]; rfl)⟩
        case measure => simp [intOf]; omega
    · go_wp2
      go_ret
      obtain rfl : k = l.length + 4 := by omega
      exact ⟨rfl, hb, hsz, ho⟩

set_option maxHeartbeats 400000 in
theorem sameNumbers_any {g : Nat} {v : Value} {l : List Int} {P : Nat → Prop} {w : World} (hv : IntsIn w v l P) (ho : OwnN w g (l.length + 4) l) (hn : l.length ≤ 1000000000) :
    Calls Tryz.prog 110 #[.slice (some ⟨g, 0, none⟩) l.length (l.length + 4), v] w fun e w' => e = .returned (.bool true) ∧ Dr w w' := by
  obtain ⟨a, c, rfl, hf⟩ := hv
  have HF := hide hf
  clear hf
  have hn1 : (0 : Int) ≤ (l.length : Int) + 4 := by omega
  have hn2 : (l.length : Int) + 4 ≤ 140737488351232 := by omega
  go_enter Tryz.func110, Tryz.ntmps110
  go_wp2
  clear hn2 hn1
  go_loopw [6] (fun i wr => ∃ k : Nat, k ≤ l.length + 4 ∧ i = .int .i64 k ∧ Dr w wr) (fun i _ => l.length + 4 - (intOf i).toNat)
  case atStart => exact ⟨0, Nat.zero_le _, rfl, Dr.refl _⟩
  case round =>
    obtain ⟨k, hk, rfl, hd⟩ := hrel
    by_cases hlt : k < l.length + 4
    · have o0 := ho.cells k hlt
      rw [← hd.cell] at o0
      by_cases hkn : k < l.length
      · rcases unhide HF with hz | ⟨b, off, rfl, hq, hf⟩
        · subst hz; simp at hkn
        have g0 := hf k hkn
        rw [← hd.cell] at g0
        clear hf hq
        have hge : l.getD k 3 = l.getD k 0 := by rw [List.getD_eq_getElem?_getD, List.getD_eq_getElem?_getD, List.getElem?_eq_getElem hkn]; rfl
        rw [hge] at o0
        clear hge
        generalize l.getD k 0 = x at *
        have hk0 : (0 : Int) ≤ (k : Int) := by omega
        have hk1 : (k : Int) < (l.length : Int) := by omega
        have hk2 : (k : Int) < (l.length : Int) + 4 := by omega
        go_wp2
        go_quiet (fail)
        go_wp2
        go_roundw
        case rel => exact ⟨k + 1, by omega, by go_num, hd.more _⟩
        case measure => simp [intOf]; omega
      · have hge : l.getD k 3 = 3 := by rw [List.getD_eq_getElem?_getD, List.getElem?_eq_none (by omega)]; rfl
        rw [hge] at o0
        clear hge
        have hg : decide ((k : Int) < (l.length : Int)) = false := by simp; omega
        have hk0 : (0 : Int) ≤ (k : Int) := by omega
        have hk2 : (k : Int) < (l.length : Int) + 4 := by omega
        go_wp2
        go_quiet (fail)
        go_wp2
        go_roundw
        case rel => exact ⟨k + 1, by omega, by go_num, hd.more _⟩
        case measure => simp [intOf]; omega
    · go_wp2
      go_ret
      exact ⟨by simp, hd⟩

set_option maxHeartbeats 400000 in
theorem sameEventsL_any (n : Nat) (v1 v2 : Value) (f : Nat → O3) (w : World) (h1 : OpsIn w v1 n f) (h2 : OpsIn w v2 n f) :
    Calls Tryz.prog 74 #[v1, v2] w fun e w' => e = .returned (.bool true) ∧ Dr w w' := by
  obtain ⟨a, c, rfl, hn, hf⟩ := h1
  obtain ⟨a', c', rfl, _, hf'⟩ := h2
  have HF := hide hf
  have HF' := hide hf'
  clear hf hf'
  go_enter Tryz.func74, Tryz.ntmps74
  go_wp2
  go_loopw [5] (fun i wr => ∃ k : Nat, k ≤ n ∧ i = .int .i64 k ∧ Dr w wr) (fun i _ => n - (intOf i).toNat)
  case atStart => exact ⟨0, Nat.zero_le _, rfl, Dr.refl _⟩
  case round =>
    obtain ⟨k, hk, rfl, hd⟩ := hrel
    by_cases hlt : k < n
    · rcases unhide HF with hz | ⟨b, off, rfl, hf⟩
      · omega
      rcases unhide HF' with hz | ⟨b', off', rfl, hf'⟩
      · omega
      obtain ⟨g0, g1, g2⟩ := hf k hlt
      obtain ⟨o0, o1, o2⟩ := hf' k hlt
      rw [← hd.cell] at g0 g1 g2 o0 o1 o2
      clear hf hf'
      generalize f k = x at *
      have hk0 : (0 : Int) ≤ (k : Int) := by omega
      have hk1 : (k : Int) < (n : Int) := by omega
      go_wp2
      go_quiet (fail)
      go_wp2
      go_roundw
      case rel => exact ⟨k + 1, by omega, by go_num, hd.more _⟩
      case measure => simp [intOf]; omega
    · go_wp2
      go_ret
      exact ⟨rfl, hd⟩
end Go.Proofs.YtfmbebofllgmoaaGreatDoor
namespace Go.Proofs.YtfmbebofllgmoaaGreatDoor
open Go.RowKit
attribute [local go_sem ↓] Go.wp_at_zero Go.wp_at_succ

theorem OwnN.lt {w : World} {g k : Nat} {l : List Int} (h : OwnN w g k l) (hk : 0 < k) : g < w.heap.size := World.block_lt_of_cell? w ⟨g, 0, none⟩ (h.cells 0 hk)
/-- A copy of a list of lists in block g, as far as it is made (k of n): the lists' own blocks G i. -/
structure OwnBt (w : World) (g n k : Nat) (ls : List (List Int)) (G : Nat → Nat) : Prop where
  there : Writable w g (n + 4)
  heads : ∀ i, i < k → i < n → w.cell? ⟨g, i, none⟩ = some (.slice (some ⟨G i, 0, none⟩) (ls.getD i []).length ((ls.getD i []).length + 4))
  far : ∀ i, i < k → i < n → g < G i ∧ G i < w.heap.size
  own : ∀ i, i < k → i < n → OwnN w (G i) ((ls.getD i []).length + 4) (ls.getD i [])
theorem OwnBt.below {w w' : World} {B g n k : Nat} {ls : List (List Int)} {G : Nat → Nat} (h : OwnBt w g n k ls G) (hb : Below B w w') (hg : g < B) (hG : ∀ i, i < k → i < n → G i < B) : OwnBt w' g n k ls G :=
  ⟨h.there.below hb hg, fun i hi hn => (hb.cell (p := ⟨g, _, none⟩) hg).trans (h.heads i hi hn), fun i hi hn => ⟨(h.far i hi hn).1, Nat.lt_of_lt_of_le (h.far i hi hn).2 hb.size⟩, fun i hi hn => (h.own i hi hn).below hb (hG i hi hn)⟩
theorem OwnBt.step {w : World} {g n k q : Nat} {ls : List (List Int)} {G : Nat → Nat} (h : OwnBt w g n k ls G) (hk : k < n) (hq : g < q ∧ q < w.heap.size) (ho : OwnN w q ((ls.getD k []).length + 4) (ls.getD k [])) :
    OwnBt (w.setCell ⟨g, k, none⟩ (.slice (some ⟨q, 0, none⟩) (ls.getD k []).length ((ls.getD k []).length + 4))) g n (k + 1) ls (fun i => if i = k then q else G i) := by
  refine ⟨h.there.setCell _ _, ?_, ?_, ?_⟩
  · intro i hi hn
    by_cases e : i = k
    · subst e
      simp only [if_true]
      exact World.cell?_setCell_same' _ _ _ (h.there _ (by omega)).1
    · simp only [e, if_false]
      rw [World.cell?_setCell_other _ _ _ _ (by intro he; injection he; omega)]
      exact h.heads i (by omega) hn
  · intro i hi hn
    by_cases e : i = k
    · simp only [e, if_true]; simpa using hq
    · simp only [e, if_false]; simpa using h.far i (by omega) hn
  · intro i hi hn
    by_cases e : i = k
    · subst e
      simp only [if_true]
      exact ho.setCell (by simp; omega) _
    · simp only [e, if_false]
      exact (h.own i (by omega) hn).setCell (by have := (h.far i (by omega) hn).1; simp; omega) _
theorem OwnBt.pad {w : World} {g n k : Nat} {ls : List (List Int)} {G : Nat → Nat} (h : OwnBt w g n k ls G) (hk : n ≤ k) (v : Value) : OwnBt (w.setCell ⟨g, k, none⟩ v) g n (k + 1) ls G :=
  ⟨h.there.setCell _ _, fun i hi hn => by
    rw [World.cell?_setCell_other _ _ _ _ (by intro he; injection he; omega)]
    exact h.heads i (by omega) hn, fun i hi hn => by simpa using h.far i (by omega) hn, fun i hi hn => (h.own i (by omega) hn).setCell (by have := (h.far i (by omega) hn).1; simp; omega) _⟩
theorem OwnBt.setCell {w : World} {g n k : Nat} {ls : List (List Int)} {G : Nat → Nat} (h : OwnBt w g n k ls G) {a : Addr} (ha : a.block < g) (v : Value) : OwnBt (w.setCell a v) g n k ls G :=
  ⟨h.there.setCell _ _, fun i hi hn => (World.cell?_setCell_other _ _ _ _ (fun he => by rw [he] at ha; exact absurd ha (Nat.lt_irrefl _))).trans (h.heads i hi hn), fun i hi hn => by simpa using h.far i hi hn, fun i hi hn => (h.own i hi hn).setCell (by have := (h.far i hi hn).1; omega) _⟩
def sN (g : Nat) (l : List Int) : Value := .slice (some ⟨g, 0, none⟩) l.length (l.length + 4)
/-- The copy of a world while its batches are being copied. -/
structure WV (w wr : World) (v0 v1 v2 v3 : Value) (wb g0 g2 g3 : Nat) (vb : Value) (lc lp ll : List Int) : Prop where
  bel : Below w.heap.size w wr
  bx : wr.heap[w.heap.size]? = some (.cells #[v0, v1, v2, v3] 29)
  rs : wr.heap[w.heap.size + 1]? = some (.cells #[.slice none 0 0, .slice none 0 0, .slice none 0 0, .slice none 0 0] 29)
  wb_ : wr.heap[wb]? = some (.cells #[sN g0 lc, vb, sN g2 lp, sN g3 ll] 29)
  wbB : w.heap.size + 1 < wb
  l0 : w.heap.size + 1 < g0 ∧ g0 ≠ wb
  l2 : w.heap.size + 1 < g2 ∧ g2 ≠ wb
  l3 : w.heap.size + 1 < g3 ∧ g3 ≠ wb
  o0 : OwnN wr g0 (lc.length + 4) lc
  o2 : OwnN wr g2 (lp.length + 4) lp
  o3 : OwnN wr g3 (ll.length + 4) ll
section
variable {w wr W : World} {v0 v1 v2 v3 vb : Value} {wb g0 g2 g3 : Nat} {lc lp ll : List Int}
theorem WV.size (h : WV w wr v0 v1 v2 v3 wb g0 g2 g3 vb lc lp ll) : w.heap.size + 1 < wr.heap.size ∧ wb < wr.heap.size ∧ g0 < wr.heap.size ∧ g2 < wr.heap.size ∧ g3 < wr.heap.size :=
  ⟨(Array.getElem?_eq_some_iff.1 h.rs).1, (Array.getElem?_eq_some_iff.1 h.wb_).1, h.o0.lt (by omega), h.o2.lt (by omega), h.o3.lt (by omega)⟩
theorem WV.below (h : WV w wr v0 v1 v2 v3 wb g0 g2 g3 vb lc lp ll) (hb : Below wr.heap.size wr W) : WV w W v0 v1 v2 v3 wb g0 g2 g3 vb lc lp ll := by
  obtain ⟨s1, s2, s3, s4, s5⟩ := h.size
  exact ⟨h.bel.trans (hb.mono h.bel.size), (hb.block _ (by omega)).trans h.bx, (hb.block _ s1).trans h.rs, (hb.block _ s2).trans h.wb_, h.wbB, h.l0, h.l2, h.l3, h.o0.below hb s3, h.o2.below hb s4, h.o3.below hb s5⟩
theorem WV.setVb (h : WV w wr v0 v1 v2 v3 wb g0 g2 g3 vb lc lp ll) (v : Value) : WV w (wr.setCell ⟨wb, 1, none⟩ v) v0 v1 v2 v3 wb g0 g2 g3 v lc lp ll := by
  have hB := h.wbB
  refine ⟨h.bel.setCell (by show w.heap.size ≤ wb; omega) _, (Below.heap_setCell _ _ _ _ (by show _ ≠ wb; omega)).trans h.bx, (Below.heap_setCell _ _ _ _ (by show _ ≠ wb; omega)).trans h.rs, ?_, h.wbB, h.l0, h.l2, h.l3,
    h.o0.setCell (Ne.symm h.l0.2) _, h.o2.setCell (Ne.symm h.l2.2) _, h.o3.setCell (Ne.symm h.l3.2) _⟩
  have h0 := setRow_heap wr wb _ (#[sN g0 lc, vb, sN g2 lp, sN g3 ll].setIfInBounds 1 v) 29 (0, 0) h.wb_
  rwa [← setCell_eq_setRow wr wb 1 _ 29 (0, 0) v h.wb_] at h0
theorem WV.setFar (h : WV w wr v0 v1 v2 v3 wb g0 g2 g3 vb lc lp ll) {q : Nat} (hq : w.heap.size + 1 < q ∧ q ≠ wb ∧ q ≠ g0 ∧ q ≠ g2 ∧ q ≠ g3) (i : Nat) (v : Value) : WV w (wr.setCell ⟨q, i, none⟩ v) v0 v1 v2 v3 wb g0 g2 g3 vb lc lp ll := by
  obtain ⟨q1, q2, q3, q4, q5⟩ := hq
  exact ⟨h.bel.setCell (by show w.heap.size ≤ q; omega) _, (Below.heap_setCell _ _ _ _ (by show _ ≠ q; omega)).trans h.bx, (Below.heap_setCell _ _ _ _ (by show _ ≠ q; omega)).trans h.rs, (Below.heap_setCell _ _ _ _ (Ne.symm q2)).trans h.wb_, h.wbB, h.l0, h.l2, h.l3,
    h.o0.setCell q3 _, h.o2.setCell q4 _, h.o3.setCell q5 _⟩
/-- The four lists are laid into the new variable. -/
theorem WV.start (hB : Below w.heap.size w W) (bx : W.heap[w.heap.size]? = some (.cells #[v0, v1, v2, v3] 29)) (rs : W.heap[w.heap.size + 1]? = some (.cells #[.slice none 0 0, .slice none 0 0, .slice none 0 0, .slice none 0 0] 29))
    (hb : W.heap[wb]? = some (.cells #[.slice none 0 0, .slice none 0 0, .slice none 0 0, .slice none 0 0] 29)) (wbB : w.heap.size + 1 < wb) (l0 : w.heap.size + 1 < g0 ∧ g0 ≠ wb) (l2 : w.heap.size + 1 < g2 ∧ g2 ≠ wb) (l3 : w.heap.size + 1 < g3 ∧ g3 ≠ wb)
    (o0 : OwnN W g0 (lc.length + 4) lc) (o2 : OwnN W g2 (lp.length + 4) lp) (o3 : OwnN W g3 (ll.length + 4) ll) :
    WV w ((((W.setCell ⟨wb, 0, none⟩ (.slice (some ⟨g0, 0, none⟩) lc.length (lc.length + 4))).setCell ⟨wb, 1, none⟩ (.slice none 0 0)).setCell ⟨wb, 2, none⟩ (.slice (some ⟨g2, 0, none⟩) lp.length (lp.length + 4))).setCell ⟨wb, 3, none⟩ (.slice (some ⟨g3, 0, none⟩) ll.length (ll.length + 4))) v0 v1 v2 v3 wb g0 g2 g3 (.slice none 0 0) lc lp ll := by
  have st : ∀ (V : World) (c : Array Value) (i : Nat) (x : Value), V.heap[wb]? = some (.cells c 29) → (V.setCell ⟨wb, i, none⟩ x).heap[wb]? = some (.cells (c.setIfInBounds i x) 29) := by
    intro V c i x hV
    have h0 := setRow_heap V wb c (c.setIfInBounds i x) 29 (0, 0) hV
    rw [← setCell_eq_setRow V wb i c 29 (0, 0) x hV] at h0
    exact h0
  have h4 := st _ _ 3 (sN g3 ll) (st _ _ 2 (sN g2 lp) (st _ _ 1 (.slice none 0 0) (st _ _ 0 (sN g0 lc) hb)))
  simp only [List.setIfInBounds_toArray, List.set] at h4
  have e4 : ∀ q, q ≠ wb → ((((W.setCell ⟨wb, 0, none⟩ (sN g0 lc)).setCell ⟨wb, 1, none⟩ (.slice none 0 0)).setCell ⟨wb, 2, none⟩ (sN g2 lp)).setCell ⟨wb, 3, none⟩ (sN g3 ll)).heap[q]? = W.heap[q]? := fun q hq => by
    rw [Below.heap_setCell _ _ _ _ hq, Below.heap_setCell _ _ _ _ hq, Below.heap_setCell _ _ _ _ hq, Below.heap_setCell _ _ _ _ hq]
  refine ⟨(((hB.setCell (by show w.heap.size ≤ wb; omega) _).setCell (by show w.heap.size ≤ wb; omega) _).setCell (by show w.heap.size ≤ wb; omega) _).setCell (by show w.heap.size ≤ wb; omega) _, (e4 _ (by omega)).trans bx, (e4 _ (by omega)).trans rs, h4, wbB, l0, l2, l3, ?_, ?_, ?_⟩
  · exact (((o0.setCell (Ne.symm l0.2) _).setCell (Ne.symm l0.2) _).setCell (Ne.symm l0.2) _).setCell (Ne.symm l0.2) _
  · exact (((o2.setCell (Ne.symm l2.2) _).setCell (Ne.symm l2.2) _).setCell (Ne.symm l2.2) _).setCell (Ne.symm l2.2) _
  · exact (((o3.setCell (Ne.symm l3.2) _).setCell (Ne.symm l3.2) _).setCell (Ne.symm l3.2) _).setCell (Ne.symm l3.2) _
end
theorem info26v : (Tryz.prog.info? 26).map (fun i => (i.zero, i.size, i.bytes)) = some (some (.slice none 0 0), 1, 24) := by kernel_rfl
theorem make_bats (n : Nat) (hn : n ≤ 1000000000) (w : World) : (Instr.makeSlice 27 (.int .i64 ((n : Int) + 4)) (.int .i64 ((n : Int) + 4))).run Tryz.prog w =
    .ok (.slice (some ⟨w.heap.size, 0, none⟩) (n + 4) (n + 4)) (w.alloc (.cells (madeCells #[.slice none 0 0] (n + 4)) 26)) := by
  have h := info26v
  cases hi : Tryz.prog.info? 26 with
  | none => rw [hi] at h; cases h
  | some i =>
    rw [hi] at h
    simp only [Option.map_some, Option.some.injEq, Prod.mk.injEq] at h
    obtain ⟨hz, hs, hb⟩ := h
    have := run_make (P := Tryz.prog) w 27 26 i _ Tryz.underlying27 hi hz .i64 .i64 ((n : Int) + 4) ((n : Int) + 4) (by omega) (by omega) (by rw [hb]; omega) (by omega)
    rw [this, hs]
    have e : ((n : Int) + 4).toNat = n + 4 := by omega
    rw [e, Nat.mul_one]
    rfl
theorem numbersB {w X : World} {v : Value} {l : List Int} {P : Nat → Prop} (hB : Below w.heap.size w X) (hP : ∀ q, P q → q < w.heap.size) (hv : IntsIn w v l P) (hn : l.length ≤ 1000000000) :
    Calls Tryz.prog 105 #[v] X fun e w' => e = .returned (.slice (some ⟨X.heap.size, 0, none⟩) l.length (l.length + 4)) ∧ Below X.heap.size X w' ∧ X.heap.size < w'.heap.size ∧ OwnN w' X.heap.size (l.length + 4) l :=
  numbersL_any (fun q hq => Nat.lt_of_lt_of_le (hP q hq) hB.size) (intsIn_kept hv (fun q hq => hB.block q (hP q hq)) (fun _ h => h)) hn
/-- The loop over the batches. -/
def WBRel (w : World) (v0 v1 v2 v3 : Value) (wb g0 g2 g3 gb n : Nat) (lc lp ll : List Int) (ls : List (List Int)) (u : Value) (wr : World) : Prop :=
  ∃ k : Nat, k ≤ n + 4 ∧ u = .int .i64 k ∧ ∃ G, WV w wr v0 v1 v2 v3 wb g0 g2 g3 (.slice (some ⟨gb, 0, none⟩) (n + 4) (n + 4)) lc lp ll ∧ OwnBt wr gb n k ls G ∧ wb < gb ∧ g0 < gb ∧ g2 < gb ∧ g3 < gb
end Go.Proofs.YtfmbebofllgmoaaGreatDoor
