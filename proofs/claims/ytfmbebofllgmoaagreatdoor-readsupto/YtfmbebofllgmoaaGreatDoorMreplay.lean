/-
  PROVED HERE: a range over a function whose own state lies in cells, with a body that never leaves it: from the round's walk and the function's walk to the statement. a list of inputs in memory, each with its files: nobody else's, and no two share room; it grows by one. the reader's iterator hands out what a log has, record by record, and keeps where it ends and why. Read gives what the model (readL) says, in new memory, and leaves the rest as it was. feed.Filled of inputs makes a channel that holds them and is closed. a replay's source answers what is next of a log (repAsk). a replay's source keeps its word (HearSpec over repAsk); New makes it of inputs; what is read of a log may be heard. Replay runs a program by what is read of a log.
-/
import Derived.RangeFuncNested
import Derived.RangeFuncBound
import Derived.RangeFuncCalls
import Derived.RangeFuncLeaves
import Derived.Test.YtfmbebofllgmoaaGreatDoorMrec
import Derived.Deep.RegionHeld3
import Derived.Deep.DeepCutAuto
import Derived.Shelf.RegionOpen
import Derived.OwnWalkIn
import Derived.TacticsInMore
import Derived.Maps.OwnIn
import Derived.Maps.AppendAt
import Derived.BigQuiet
import Derived.LoopNIn
import Derived.LoopIn
import Derived.Test.YtfmbebofllgmoaaGreatDoorMloopa
import Derived.Test.YtfmbebofllgmoaaGreatDoorMsims
namespace Go.Proofs.YtfmbebofllgmoaaGreatDoor
open Go.RowKit

/-- It hangs not on a loop's record. -/
def NoRec (l : Nat) (R : World → Prop) : Prop := ∀ W r o, R W → W.heap[l]? = some (.loop r) → R (W.putObj l (.loop o))
/-- The two blocks of a loop's book-keeping. -/
def BookAt (D l : Nat) (r : Loop) (W : World) : Prop := W.heap[l]? = some (.loop r) ∧ W.heap[D]? = some (.deferred (some []))

theorem wp_range {α : Type} {P : Program} {n : Nat} {g : Operand} {ps : Array Tmp} {assign body : Code} {Q : Exit → Act → World → Prop} {a : Act} {w : World} {gf : Nat} {lb : Array Value}
    (hg : a.eval g = .func (.func gf) #[] lb) (eg : ∀ args w, (callFunc gf args).run P w = .ok (.enter gf args) w) (encs : α → Array Value) (hps : ∀ x, (encs x).size = ps.size)
    (R R' : α → World → Prop) (Rm : α → Act → World → Prop) (S : World → Prop) (hR' : ∀ x, NoRec (w.heap.size + 1) (R' x)) (hRm : ∀ x b, NoRec (w.heap.size + 1) (Rm x b)) (hS : NoRec (w.heap.size + 1) S)
    (hassign : ∀ (x : α) (W : World) (r : Loop) (K : Act → World → Prop), R x W → BookAt w.heap.size (w.heap.size + 1) r W → (∀ b W', BookAt w.heap.size (w.heap.size + 1) r W' → Rm x b W' → K b W') →
      assign.wpIn (Fence.wide.inRound (w.heap.size + 1)) n P (Exit.then K (fun _ _ _ => False)) { tmps := (ps.zip (encs x)).foldl (fun t (p, v) => t.setIfInBounds p v) a.tmps, defers := [] } W)
    (hbody : ∀ (x : α) (b : Act) (W : World) (r : Loop), Rm x b W → BookAt w.heap.size (w.heap.size + 1) r W → body.wpIn (Fence.wide.inRound (w.heap.size + 1)) n P (fun e _ W' => e = .normal ∧ BookAt w.heap.size (w.heap.size + 1) r W' ∧ R' x W') b W)
    (hiter : ∀ (Bk : World → Prop) (W1 : World), (∀ W, Bk W → ∃ r, BookAt w.heap.size (w.heap.size + 1) r W) → (∀ W W', Bk W → W'.heap[w.heap.size]? = W.heap[w.heap.size]? → W'.heap[w.heap.size + 1]? = W.heap[w.heap.size + 1]? → Bk W') →
      (∀ x W, R x W → Bk W → YieldAt Fence.wide n P (w.heap.size + 1) (encs x) W fun e W' => e = .returned (.bool true) ∧ R' x W' ∧ Bk W') → Bk W1 → (∃ o1 o2, W1 = (w.alloc o1).alloc o2) →
      CallsIn Fence.wide n P gf (#[.func (.yield (w.heap.size + 1)) #[] #[]] ++ lb) W1 fun e W' => (∃ v, e = .returned v) ∧ S W' ∧ Bk W')
    (hdone : ∀ (W : World), S W → W.heap[w.heap.size]? = some (.deferred (some [])) → Q .normal { a with defers := { target := .collected w.heap.size, args := #[] } :: a.defers } W) :
    (Code.rangeFunc g ps assign body).wpIn Fence.wide n P Q a w := by
  refine wpIn_rangeFunc ?_
  intro fn hfn
  obtain ⟨rec, hrec⟩ : ∃ rec : LoopState → Loop, rec = fun st => { state := st, pending := none, fn, tmps := a.tmps, params := ps, assign, body, defers := w.heap.size } := ⟨_, rfl⟩
  obtain ⟨W1, hW1⟩ : ∃ W1, (w.alloc (.deferred (some []))).alloc (.loop (rec .ready)) = W1 := ⟨_, rfl⟩
  have hL1 : W1.heap[w.heap.size + 1]? = some (.loop (rec .ready)) := by
    rw [← hW1]; have := World.alloc_heap_new (w.alloc (.deferred (some []))) (.loop (rec .ready)); rwa [World.size_alloc] at this
  have hK1 : W1.heap[w.heap.size]? = some (.deferred (some [])) := by
    rw [← hW1]; exact (Below.heap_alloc _ _ _ (by simp)).trans (World.alloc_heap_new w _)
  refine ⟨w.heap.size + 1, [{ target := .collected w.heap.size, args := #[] }], W1, { target := .fn (.func gf) lb, args := #[.func (.yield (w.heap.size + 1)) #[] #[]] }, W1, gf,
    #[.func (.yield (w.heap.size + 1)) #[] #[]] ++ lb, W1, ?_, ?_, ?_, ?_, ?_, ?_⟩
  · rw [← hW1, hrec]; exact run_enterLoop_outer _ _ _ _ _
  · simp only [resolve, hg]
    simp [go_sem]
  · intro f' _; exact trivial
  · simp [invoke, go_sem, eg]
  · intro h; cases h
  · refine ((callsIn_wide (n := n - 1)).2 ((callsIn_wide (n := n)).1 (hiter (BookAt w.heap.size (w.heap.size + 1) (rec .ready)) W1 (fun W h => ⟨_, h⟩) (fun W W' h h1 h2 => ⟨h2.trans h.1, h1.trans h.2⟩) ?_ ⟨hL1, hK1⟩ ⟨_, _, hW1.symm⟩))).mono ?_
    · intro x W hr hbk
      have hlt : w.heap.size + 1 < W.heap.size := (Array.getElem?_eq_some_iff.1 hbk.1).1
      have hy := run_yield (P := P) (args := encs x) hbk.1 (by rw [hrec]; exact hps x)
      rw [hrec] at hy
      refine ⟨fn, _, assign, body, hy, roundIn_of_wpIn hfn (hassign x W (rec .ready) _ hr hbk ?_)⟩
      clear hy
      intro b Wa hba hra
      have hlta : w.heap.size + 1 < Wa.heap.size := (Array.getElem?_eq_some_iff.1 hba.1).1
      refine ⟨_, run_beginRound hba.1 (by rw [hrec]), ?_⟩
      have hb2 : BookAt w.heap.size (w.heap.size + 1) (rec .busy) (Wa.putObj (w.heap.size + 1) (.loop (rec .busy))) := ⟨World.putObj_heap_same hlta, (World.putObj_heap_other (by omega)).trans hba.2⟩
      have e2 : ({ rec .ready with state := .busy } : Loop) = rec .busy := by rw [hrec]
      rw [e2]
      refine wpIn_mono (hbody x b _ (rec .busy) (hRm x b Wa _ _ hra hba.1) hb2) ?_
      rintro e b3 W3 ⟨rfl, hb3, hr3⟩
      have hlt3 : w.heap.size + 1 < W3.heap.size := (Array.getElem?_eq_some_iff.1 hb3.1).1
      refine ⟨_, _, run_endRound none hb3.1, rfl, ?_, ?_⟩
      · exact hR' x W3 _ _ hr3 hb3.1
      · have e3 : ({ rec .busy with state := if (none : Option Code).isNone then .ready else .done, pending := none } : Loop) = rec .ready := by rw [hrec]; rfl
        rw [e3]
        exact ⟨World.putObj_heap_same hlt3, (World.putObj_heap_other (by omega)).trans hb3.2⟩
    · rintro e W2 ⟨⟨v, rfl⟩, hS2, hb2⟩
      have hrun := run_endLoop (P := P) hb2.1 (by rw [hrec]; simp)
      have hpn : (rec .ready).pending = none := by rw [hrec]
      rw [hpn] at hrun
      exact ⟨none, _, hrun, hdone _ (hS W2 _ _ hS2 hb2.1) ((World.putObj_heap_other (by omega)).trans hb2.2)⟩
end Go.Proofs.YtfmbebofllgmoaaGreatDoor
namespace Go.Proofs.YtfmbebofllgmoaaGreatDoor
open Go.RowKit

/-- The cells of inputs, each with the value of its files. -/
def flatP : List (Inp × Value) → List Value
  | [] => []
  | p :: r => .int .i64 p.1.1 :: .int .i64 p.1.2.1 :: .int .i64 p.1.2.2.1 :: p.2 :: flatP r
theorem flatP_append (a b : List (Inp × Value)) : flatP (a ++ b) = flatP a ++ flatP b := by
  induction a with
  | nil => rfl
  | cons x r ih => simp [flatP, ih]
theorem flatP_length (a : List (Inp × Value)) : (flatP a).length = a.length * 4 := by
  induction a with
  | nil => rfl
  | cons x r ih => simp [flatP, ih]; omega
/-- The blocks of such a list. -/
def inS (v : Value) (ps : List (Inp × Value)) (q : Nat) : Prop := own v q ∨ ∃ p, p ∈ ps ∧ own p.2 q
structure InsAt (W : World) (B : Nat) (v : Value) (ps : List (Inp × Value)) : Prop where
  row : W.ownsRow B 49 4 v ps.length (flatP ps)
  fl : ∀ p, p ∈ ps → OwnI W B p.2 (zs p.1.2.2.2)
  sep : ∀ p, p ∈ ps → ∀ q, own p.2 q → ¬ own v q
  dis : ps.Pairwise fun p p' => ∀ q, own p.2 q → ¬ own p'.2 q
theorem row_cells {W : World} {B e size n : Nat} {v : Value} {xs : List Value} (h : W.ownsRow B e size v n xs) {q : Nat} (hq : own v q) : ∃ cur, W.heap[q]? = some (.cells cur e (0, 0)) := by
  rcases h.2 with ⟨rfl, _⟩ | ⟨g, cap, cur, rfl, _, hg, _⟩
  · simp [own, Value.ownBlock] at hq
  · simp only [own, Value.ownBlock, Option.some.injEq] at hq
    subst hq
    exact ⟨cur, hg⟩
section
variable {W W' : World} {B : Nat} {v : Value} {ps : List (Inp × Value)}
theorem InsAt.lt (h : InsAt W B v ps) {q : Nat} (hq : inS v ps q) : B ≤ q ∧ q < W.heap.size := by
  rcases hq with hq | ⟨p, hp, hq⟩
  · exact World.ownsRow.lt h.row q hq
  · exact World.ownsRow.lt (h.fl p hp) q hq
theorem InsAt.isCells (h : InsAt W B v ps) {q : Nat} (hq : inS v ps q) : ∃ cur e, W.heap[q]? = some (.cells cur e (0, 0)) := by
  rcases hq with hq | ⟨p, hp, hq⟩
  · obtain ⟨cur, h1⟩ := row_cells h.row hq; exact ⟨cur, _, h1⟩
  · obtain ⟨cur, h1⟩ := row_cells (h.fl p hp) hq; exact ⟨cur, _, h1⟩
theorem InsAt.block (h : InsAt W B v ps) (hb : ∀ q, inS v ps q → W'.heap[q]? = W.heap[q]?) : InsAt W' B v ps :=
  ⟨ownsRow_of_block h.row (fun q hq => hb q (.inl hq)), fun p hp => ownsRow_of_block (h.fl p hp) (fun q hq => hb q (.inr ⟨p, hp, hq⟩)), h.sep, h.dis⟩
theorem InsAt.nil (W : World) (B : Nat) : InsAt W B (.slice none 0 0) [] :=
  ⟨World.ownsRow_nil _ _ _ _, fun _ h => absurd h (by simp), fun _ h => absurd h (by simp), List.Pairwise.nil⟩
theorem inS_nil (q : Nat) : ¬ inS (.slice none 0 0) [] q := by
  rintro (h | ⟨p, hp, _⟩)
  · simp [own, Value.ownBlock] at h
  · simp at hp
theorem InsAt.low {B' : Nat} (h : InsAt W B v ps) (hB : B' ≤ B) : InsAt W B' v ps :=
  ⟨ownsRow_low h.row hB, fun p hp => ownsRow_low (h.fl p hp) hB, h.sep, h.dis⟩
/-- One input is put behind. -/
theorem InsAt.grow (h : InsAt W B v ps) (x : Inp) (fv : Value) (hf : OwnI W B fv (zs x.2.2.2)) (hn : ∀ q, own fv q → ¬ inS v ps q) {w1 : World} {v' : Value} {tmp : Obj}
    (ho : w1.ownsRow B 49 4 v' (ps.length + 1) (flatP ps ++ [.int .i64 x.1, .int .i64 x.2.1, .int .i64 x.2.2.1, fv])) (hg : (W.alloc tmp).grownBy w1 v.ownBlock) (hat : v'.ownBlock = v.ownBlock ∨ v'.ownBlock = some (W.alloc tmp).heap.size) :
    InsAt w1 B v' (ps ++ [(x, fv)]) ∧ (∀ q, inS v' (ps ++ [(x, fv)]) q → inS v ps q ∨ own fv q ∨ W.heap.size ≤ q) := by
  have hv' : ∀ q, own v' q → own v q ∨ q = W.heap.size + 1 := by
    intro q hq
    rcases hat with e | e
    · left; unfold own at hq ⊢; rw [← e]; exact hq
    · right; unfold own at hq; rw [e] at hq; injection hq with hq; simp at hq; omega
  have same : ∀ q, q < W.heap.size → ¬ own v q → w1.heap[q]? = W.heap[q]? := fun q hq hn => (hg.block q (by simp; omega) (fun e => hn e.symm)).trans (Below.heap_alloc _ _ _ hq)
  refine ⟨⟨?_, ?_, ?_, ?_⟩, ?_⟩
  · rw [List.length_append, flatP_append]; exact ho
  · intro p hp
    rcases List.mem_append.1 hp with hp | hp
    · exact ownsRow_of_block (h.fl p hp) (fun q hq => same q (h.lt (.inr ⟨p, hp, hq⟩)).2 (h.sep p hp q hq))
    · rw [List.mem_singleton.1 hp]
      exact ownsRow_of_block hf (fun q hq => same q (World.ownsRow.lt hf q hq).2 (fun e => hn q hq (.inl e)))
  · intro p hp q hq hv
    rcases hv' q hv with e | e
    · rcases List.mem_append.1 hp with hp | hp
      · exact h.sep p hp q hq e
      · rw [List.mem_singleton.1 hp] at hq; exact hn q hq (.inl e)
    · rcases List.mem_append.1 hp with hp | hp
      · have := (h.lt (.inr ⟨p, hp, hq⟩)).2; omega
      · rw [List.mem_singleton.1 hp] at hq; have := (World.ownsRow.lt hf q hq).2; omega
  · refine List.pairwise_append.2 ⟨h.dis, List.pairwise_singleton _ _, ?_⟩
    intro p hp p' hp' q hq hq'
    rw [List.mem_singleton.1 hp'] at hq'
    exact hn q hq' (.inr ⟨p, hp, hq⟩)
  · rintro q (hq | ⟨p, hp, hq⟩)
    · rcases hv' q hq with e | e
      · exact .inl (.inl e)
      · exact .inr (.inr (by omega))
    · rcases List.mem_append.1 hp with hp | hp
      · exact .inl (.inr ⟨p, hp, hq⟩)
      · rw [List.mem_singleton.1 hp] at hq; exact .inr (.inl hq)
end

/-- A log's reader in memory: the variable that holds it, its log, how far it has come, and why it ends. -/
structure RdAt (W : World) (vb rb : Nat) (s : ByteArray) (a y : Int) : Prop where
  v : W.heap[vb]? = some (.cells #[.pointer (some ⟨rb, 0, none⟩)] 80)
  r : W.heap[rb]? = some (.cells #[.string s, .int .i64 a, .int .i64 y] 135)
theorem RdAt.ne {W : World} {vb rb : Nat} {s : ByteArray} {a y : Int} (h : RdAt W vb rb s a y) : vb ≠ rb := by
  intro e; have h1 := h.v; rw [e, h.r] at h1; cases h1
theorem RdAt.block {W W' : World} {vb rb : Nat} {s : ByteArray} {a y : Int} (h : RdAt W vb rb s a y) (h1 : W'.heap[vb]? = W.heap[vb]?) (h2 : W'.heap[rb]? = W.heap[rb]?) : RdAt W' vb rb s a y := ⟨h1.trans h.v, h2.trans h.r⟩
theorem set3 {W : World} {g e : Nat} {c : Array Value} (h : W.heap[g]? = some (.cells c e (0, 0))) (i : Nat) (x : Value) : (W.setCell ⟨g, i, none⟩ x).heap[g]? = some (.cells (c.setIfInBounds i x) e (0, 0)) := by
  have h0 := setRow_heap W g c (c.setIfInBounds i x) e (0, 0) h
  rwa [← setCell_eq_setRow W g i c e (0, 0) x h] at h0

/-- What a reading has come to: the inputs so far lie in a variable's row. -/
structure RdJ (w0 : World) (ib vb rb : Nat) (W : World) (ps : List (Inp × Value)) : Prop where
  fr : Fr (fun _ => False) w0 W (fun _ => False)
  box : ∃ v, W.heap[ib]? = some (.cells #[v] 44) ∧ InsAt W w0.heap.size v ps ∧ ¬ inS v ps ib ∧ ¬ inS v ps vb ∧ ¬ inS v ps rb
  ge : w0.heap.size ≤ ib ∧ w0.heap.size ≤ vb ∧ w0.heap.size ≤ rb
  ne : ib ≠ vb ∧ ib ≠ rb
theorem RdJ.block {w0 W W' : World} {ib vb rb : Nat} {ps : List (Inp × Value)} (h : RdJ w0 ib vb rb W ps) (hf : Fr (fun _ => False) w0 W' (fun _ => False)) (hb : ∀ q, w0.heap.size ≤ q → q < W.heap.size → q ≠ rb → q ≠ vb → (∃ c e, W.heap[q]? = some (.cells c e (0, 0))) → W'.heap[q]? = W.heap[q]?) : RdJ w0 ib vb rb W' ps := by
  obtain ⟨v, h1, h2, h3, h4, h5⟩ := h.box
  refine ⟨hf, ⟨v, ?_, h2.block (fun q hq => ?_), h3, h4, h5⟩, h.ge, h.ne⟩
  · rw [hb ib h.ge.1 (Array.getElem?_eq_some_iff.1 h1).1 h.ne.2 h.ne.1 ⟨_, _, h1⟩]; exact h1
  · obtain ⟨c, e, hc⟩ := h2.isCells hq
    exact hb q (h2.lt hq).1 (h2.lt hq).2 (fun e => h5 (e ▸ hq)) (fun e => h4 (e ▸ hq)) ⟨c, e, hc⟩
end Go.Proofs.YtfmbebofllgmoaaGreatDoor
namespace Go.Proofs.YtfmbebofllgmoaaGreatDoor
open Go.RowKit
attribute [local go_sem ↓] Go.wp_at_zero Go.wp_at_succ
attribute [local go_sem] Oper.semAt_some

/-- A round: the inputs so far, the next one and its files, and how far the reader is. -/
structure YA where
  ps : List (Inp × Value)
  x : Inp
  fa : Option Addr
  fl : Nat
  fc : Nat
  pos : Int
  why : Int
def YA.fv (y : YA) : Value := .slice y.fa y.fl y.fc
def YA.enc (y : YA) : Array Value := #[.agg #[.int .i64 y.x.1, .int .i64 y.x.2.1, .int .i64 y.x.2.2.1, .slice y.fa y.fl y.fc]]
/-- As a round begins. -/
structure YR (w0 : World) (ib vb rb : Nat) (s : ByteArray) (y : YA) (W : World) : Prop where
  j : RdJ w0 ib vb rb W y.ps
  r : RdAt W vb rb s y.pos y.why
  f : OwnI W w0.heap.size y.fv (zs y.x.2.2.2)
  n : ∀ q, own y.fv q → q ≠ ib ∧ q ≠ vb ∧ q ≠ rb ∧ ∀ v, W.heap[ib]? = some (.cells #[v] 44) → ¬ inS v y.ps q
  m : y.ps.length ≤ 1000000000
/-- As it has ended. -/
def YE (w0 : World) (ib vb rb : Nat) (s : ByteArray) (y : YA) (W : World) : Prop := RdJ w0 ib vb rb W (y.ps ++ [(y.x, y.fv)]) ∧ RdAt W vb rb s y.pos y.why

theorem Fr.to {w w' : World} (h : Fr (fun _ => False) w w' (fun _ => False)) (S : Nat → Prop) : Fr S w w' S := ⟨h.os, h.tape, h.output, h.size, fun k hk _ => h.same k hk (fun h => h), fun _ _ h => h⟩
theorem RdAt.cells {W : World} {vb rb : Nat} {s : ByteArray} {a y : Int} (h : RdAt W vb rb s a y) : W.cell? ⟨vb, 0, none⟩ = some (.pointer (some ⟨rb, 0, none⟩)) ∧ W.cell? ⟨rb, 0, none⟩ = some (.string s) ∧ W.cell? ⟨rb, 1, none⟩ = some (.int .i64 a) ∧ W.cell? ⟨rb, 2, none⟩ = some (.int .i64 y) ∧ (∀ j, W.frozen? ⟨rb, j, none⟩ = false) :=
  ⟨cell_of_row _ _ 0 _ 80 (0, 0) h.v, cell_of_row _ _ 0 _ 135 (0, 0) h.r, cell_of_row _ _ 1 _ 135 (0, 0) h.r, cell_of_row _ _ 2 _ 135 (0, 0) h.r, fun j => frozen_rowE h.r j⟩
theorem RdAt.set1 {W : World} {vb rb : Nat} {s : ByteArray} {a y : Int} (h : RdAt W vb rb s a y) (a' : Int) : RdAt (W.setCell ⟨rb, 1, none⟩ (.int .i64 a')) vb rb s a' y :=
  ⟨(Below.heap_setCell _ _ _ _ h.ne).trans h.v, set3 h.r 1 _⟩
theorem RdAt.set2 {W : World} {vb rb : Nat} {s : ByteArray} {a y : Int} (h : RdAt W vb rb s a y) (y' : Int) : RdAt (W.setCell ⟨rb, 2, none⟩ (.int .i64 y')) vb rb s a y' :=
  ⟨(Below.heap_setCell _ _ _ _ h.ne).trans h.v, set3 h.r 2 _⟩
theorem RdAt.drew {W : World} {vb rb : Nat} {s : ByteArray} {a y : Int} (h : RdAt W vb rb s a y) : RdAt W.drew vb rb s a y := ⟨h.v, h.r⟩

/-- The loop's state: what is read so far, and what is still to come. -/
def LRel (w0 : World) (ib vb rb : Nat) (s : ByteArray) (Bk : World → Prop) (k : Nat) (W : World) : Prop :=
  ∃ (ps : List (Inp × Value)) (a y : Nat), RdJ w0 ib vb rb W ps ∧ RdAt W vb rb s a y ∧ Bk W ∧ ps.length ≤ a ∧
    ((y = 0 ∧ a ≤ s.size ∧ s.size - a < k ∧ (ps.map (·.1) ++ (rdL (((bs s).drop a).length + 1) ((bs s).drop a) a).1, (rdL (((bs s).drop a).length + 1) ((bs s).drop a) a).2) = readL (bs s)) ∨ (y ≠ 0 ∧ (ps.map (·.1), a, y) = readL (bs s)))

section
variable {w0 : World} {ib vb rb : Nat} {s : ByteArray} {l n : Nat} {Bk : World → Prop}
theorem read_begin (s : ByteArray) : ∃ a y : Nat, begM s = ((a : Int), (y : Int)) ∧ ((y = 0 ∧ a ≤ s.size ∧ ((rdL (((bs s).drop a).length + 1) ((bs s).drop a) a).1, (rdL (((bs s).drop a).length + 1) ((bs s).drop a) a).2) = readL (bs s)) ∨ (y ≠ 0 ∧ (([] : List Inp), a, y) = readL (bs s))) := by
  unfold begM readL
  by_cases h1 : hd3 <+: bs s
  · rw [if_pos h1, if_pos h1]
    have hl := h1.length_le
    rw [bs_len] at hl
    have h3 : hd3.length = 3 := rfl
    refine ⟨3, 0, rfl, .inl ⟨rfl, by omega, ?_⟩⟩
    rw [rdL_more ((bs s).length + 1) (((bs s).drop 3).length + 1) ((bs s).drop 3) 3 (by rw [List.length_drop]; omega) (by omega)]
  · rw [if_neg h1, if_neg h1]
    by_cases h2 : bs s <+: hd3
    · rw [if_pos h2, if_pos h2]; exact ⟨0, 2, rfl, .inr ⟨by omega, rfl⟩⟩
    · rw [if_neg h2, if_neg h2]; exact ⟨0, 4, rfl, .inr ⟨by omega, rfl⟩⟩
/-- A store into the reader leaves the rest. -/
theorem RdJ.reader {w0 W W' : World} {ib vb rb : Nat} {ps : List (Inp × Value)} (h : RdJ w0 ib vb rb W ps) (hf : Fr (fun k => k = rb) W W' (fun k => k = rb)) : RdJ w0 ib vb rb W' ps := by
  have hg := h.ge.2.2
  refine h.block ⟨hf.os.trans h.fr.os, hf.tape.trans h.fr.tape, hf.output.trans h.fr.output, Nat.le_trans h.fr.size hf.size, fun k hk _ => (hf.same k (Nat.lt_of_lt_of_le hk h.fr.size) (fun e => by omega)).trans (h.fr.same k hk (fun h => h)), fun _ _ h => h⟩ (fun q _ h2 h3 _ _ => hf.same q h2 h3)
theorem lrel_next {s : ByteArray} {ps : List (Inp × Value)} {a k : Nat} {x : Inp} {v : Value} (h : (ps.map (·.1) ++ (rdL (((bs s).drop a).length + 1) ((bs s).drop a) a).1, (rdL (((bs s).drop a).length + 1) ((bs s).drop a) a).2) = readL (bs s)) (hr : rcL ((bs s).drop a) = .inr (x, k)) (h5 : x.1 ≠ 5) :
    ((ps ++ [(x, v)]).map (·.1) ++ (rdL (((bs s).drop (a + k)).length + 1) ((bs s).drop (a + k)) (a + k)).1, (rdL (((bs s).drop (a + k)).length + 1) ((bs s).drop (a + k)) (a + k)).2) = readL (bs s) := by
  have hk := rcL_size _ _ _ hr
  rw [← h, rdL_step _ _ _ _ _ hr h5, List.drop_drop, rdL_more ((bs s).drop a).length (((bs s).drop (a + k)).length + 1) ((bs s).drop (a + k)) (a + k) (by rw [List.length_drop, List.length_drop] at *; omega) (by omega)]
  simp
theorem lrel_end {s : ByteArray} {ps : List (Inp × Value)} {a k z : Nat} {x : Inp} {v : Value} (h : (ps.map (·.1) ++ (rdL (((bs s).drop a).length + 1) ((bs s).drop a) a).1, (rdL (((bs s).drop a).length + 1) ((bs s).drop a) a).2) = readL (bs s)) (hr : rcL ((bs s).drop a) = .inr (x, k)) (h5 : x.1 = 5) (hz : z = if 0 < s.size - (a + k) then 5 else 1) :
    z ≠ 0 ∧ ((ps ++ [(x, v)]).map (·.1), a + k, z) = readL (bs s) := by
  have hl := bs_len s
  refine ⟨by rw [hz]; split <;> omega, ?_⟩
  rw [← h]
  simp only [rdL, hr, h5, if_true, List.drop_drop]
  have e : (if (bs s).drop (a + k) = [] then 1 else 5) = z := by
    rw [hz]
    by_cases hc : 0 < s.size - (a + k)
    · rw [if_neg (fun e => by have := congrArg List.length e; rw [List.length_drop, List.length_nil] at this; omega), if_pos hc]
    · rw [if_pos (List.drop_eq_nil_of_le (by omega)), if_neg hc]
  rw [e]
  simp
theorem yr_of {w0 wr wc W : World} {ib vb rb : Nat} {s : ByteArray} {y : YA} {a0 y0 : Int} (hj : RdJ w0 ib vb rb wr y.ps) (hr0 : RdAt wr vb rb s a0 y0) (hf : Fr (fun k => k = rb) wr W (fun k => k = rb)) (hr : RdAt W vb rb s y.pos y.why)
    (ho : OwnI wc wr.heap.size y.fv (zs y.x.2.2.2)) (hw : ∀ q, q ≠ rb → q < wc.heap.size → W.heap[q]? = wc.heap[q]?) (hm : y.ps.length ≤ 1000000000) : YR w0 ib vb rb s y W := by
  have hvz : vb < wr.heap.size := (Array.getElem?_eq_some_iff.1 hr0.v).1
  have hrz : rb < wr.heap.size := (Array.getElem?_eq_some_iff.1 hr0.r).1
  obtain ⟨v0, h1, h2, h3, h4, h5⟩ := hj.box
  have hiz : ib < wr.heap.size := (Array.getElem?_eq_some_iff.1 h1).1
  have hge : ∀ q, own y.fv q → wr.heap.size ≤ q := fun q hq => (World.ownsRow.lt ho q hq).1
  refine ⟨hj.reader hf, hr, ownsRow_of_block (ownsRow_low ho hj.fr.size) (fun q hq => hw q (by have := hge q hq; omega) (World.ownsRow.lt ho q hq).2), fun q hq => ?_, hm⟩
  have hq' := hge q hq
  refine ⟨by omega, by omega, by omega, fun v hv => ?_⟩
  rw [hf.same ib hiz hj.ne.2, h1] at hv
  injection hv with hv
  injection hv with hv _ _
  have hv0 : v0 = v := by simpa using hv
  intro hin
  have := (h2.lt (hv0 ▸ hin)).2
  omega
set_option maxHeartbeats 1000000 in
set_option maxRecDepth 20000 in
theorem inputs_any (hs : s.size ≤ 1000000000) (hbk : ∀ W, Bk W → ∃ D r, D ≠ l ∧ w0.heap.size ≤ D ∧ w0.heap.size ≤ l ∧ BookAt D l r W ∧ ∀ W', W'.heap[D]? = W.heap[D]? → W'.heap[l]? = W.heap[l]? → Bk W')
    (hY : ∀ (y : YA) W, YR w0 ib vb rb s y W → Bk W → YieldAt Fence.wide n Tryz.prog l y.enc W fun e W' => e = .returned (.bool true) ∧ YE w0 ib vb rb s y W' ∧ Bk W')
    (W1 : World) (a0 y0 : Int) (hr : RdAt W1 vb rb s a0 y0) (hj : RdJ w0 ib vb rb W1 []) (hb : Bk W1) :
    Calls Tryz.prog 57 #[.func (.yield l) #[] #[], .pointer (some ⟨vb, 0, none⟩)] W1 fun e W' => (∃ v, e = .returned v) ∧ (∃ ps, RdJ w0 ib vb rb W' ps ∧ ps.map (·.1) = (readL (bs s)).1 ∧ RdAt W' vb rb s (readL (bs s)).2.1 (readL (bs s)).2.2) ∧ Bk W' := by
  have hbr : ∀ (a y : Int) W W', Bk W → RdAt W vb rb s a y → Fr (fun k => k = rb) W W' (fun k => k = rb) → Bk W' := by
    intro a y W W' h1 h2 h3
    obtain ⟨D, r, _, _, _, hB, hc⟩ := hbk W h1
    have e1 : D ≠ rb := fun e => by have := hB.2; rw [e, h2.r] at this; cases this
    have e2 : l ≠ rb := fun e => by have := hB.1; rw [e, h2.r] at this; cases this
    exact hc W' (h3.same D (Array.getElem?_eq_some_iff.1 hB.2).1 e1) (h3.same l (Array.getElem?_eq_some_iff.1 hB.1).1 e2)
  obtain ⟨c0, c1, c2, c3, cz⟩ := hr.cells
  have hne := hr.ne
  have hne' : rb ≠ vb := Ne.symm hne
  obtain ⟨b1, b2, hbe, hst⟩ := read_begin s
  have hB := begin_any s
  rw [hbe] at hB
  have HB := hide hB
  have HR := hide hr
  have HJ := hide hj
  have HBK := hide hb
  have HST := hide hst
  have HBR := hide hbr
  have HY := hide hY
  have HBB := hide hbk
  clear hr hbe hB hj hb hst hbr hY hbk
  go_enter Tryz.func57, Tryz.ntmps57
  go_upto_region 0 with fail
  go_cut [6] (fun u wc => RdAt wc vb rb s b1 b2 ∧ Fr (fun k => k = rb) W1 wc (fun k => k = rb))
  case first =>
    go_region_held3 (fun w' => w'.cell? ⟨vb, 0, none⟩ = some (.pointer (some ⟨rb, 0, none⟩)) ∧ w'.cell? ⟨rb, 0, none⟩ = some (.string s)) (simp [go_sem, c0, c1]) (first | (go_at_call 58; refine (unhide HB _).mono ?_; rintro e w' ⟨rfl, rfl⟩))
    all_goals (go_wp2_with fail; go_meet; exact ⟨(((unhide HR).set1 b1).set2 b2).drew, ((((Fr.refl (fun k => k = rb) W1).setCell ⟨rb, 1, none⟩ _ (.inl rfl)).setCell ⟨rb, 2, none⟩ _ (.inl rfl))).drew⟩)
  case rest =>
    obtain ⟨hr1, hf1⟩ := hcut
    have hL : LRel w0 ib vb rb s Bk (s.size + 1) wc := by
      refine ⟨[], b1, b2, (unhide HJ).reader hf1, hr1, unhide HBR _ _ _ _ (unhide HBK) (unhide HR) hf1, Nat.zero_le _, ?_⟩
      rcases unhide HST with ⟨h1, h2, h3⟩ | h
      · exact .inl ⟨h1, h2, by omega, h3⟩
      · exact .inr h
    have HL := hide hL
    clear hr1 hf1 hL HST HB HJ HBK HR c0 c1 c2 c3 cz
    go_wp2
    go_loopg [4] (s.size + 1) (fun k u wr => LRel w0 ib vb rb s Bk k wr)
    case atStart => exact unhide HL
    case round =>
      obtain ⟨ps, a, y, qj, qr, qb, hpl, hst⟩ := hrel
      obtain ⟨c0, c1, c2, c3, cz⟩ := qr.cells
      rcases hst with ⟨hy0, ha, hk, hst⟩ | ⟨hy, hst⟩
      · subst hy0
        have hsz : (s.extract a s.size).size = s.size - a := by rw [ByteArray.size_extract]; omega
        have h59 := record_at (s.extract a s.size) (by omega)
        have hbs : bs (s.extract a s.size) = (bs s).drop a := bs_extract s a
        have hi1 : (0 : Int) ≤ (a : Int) := by omega
        have hi2 : (a : Int) ≤ (s.size : Int) := by omega
        have hvz : vb < wr.heap.size := (Array.getElem?_eq_some_iff.1 qr.v).1
        have hrz : rb < wr.heap.size := (Array.getElem?_eq_some_iff.1 qr.r).1
        cases hrc : rcL ((bs s).drop a) with
        | inl w =>
          have hw := rc_why _ _ hrc
          have h59' : ∀ W : World, Calls Tryz.prog 59 #[.string (s.extract a s.size)] W fun e w' => e = .returned (.tuple #[.agg #[.int .i64 0, .int .i64 0, .int .i64 0, .slice none 0 0], .int .i64 0, .int .i64 w]) ∧ Fr (fun _ => False) W w' (fun _ => False) := fun W => (h59 W).mono fun e w' h => by
            unfold RcPost at h; rw [hbs, hrc] at h; exact ⟨h.2, h.1⟩
          have hfin : readL (bs s) = (ps.map (·.1), a, w) := by
            rw [← hst]; simp only [rdL, hrc, List.append_nil]
          have H59 := hide h59'
          have HF := hide hfin
          have hwb : ((w : Int) != 0) = true := by simp; omega
          have QJ := hide qj
          have QR := hide qr
          have QB := hide qb
          clear h59 h59' hst hrc hbs qj qr qb hw hfin hsz
          go_upto_region 2 with fail
          go_cut [3, 4, 5] (fun u3 u4 u5 wc => u5 = .int .i64 w ∧ Fr (fun _ => False) wr wc (fun _ => False))
          case first =>
            refine wp_region_held_drew (S := fun w' => RdAt w' vb rb s (a : Nat) (0 : Nat)) (by kernel_rfl) (unhide QR).drew (fun hHeld => ?_)
            refine take_yes (i := 0) (d := 26) (v := ?_) (fuel := 17) rfl rfl (by kernel_rfl) (by kernel_rfl) (by kernel_rfl) (fun _ _ _ h => h) (by rfl) ?_ (by assumption) ?_
            rotate_left
            · intro w hSw; (try dsimp only at hSw); obtain ⟨d0, d1, d2, d3, dz⟩ := hSw.cells; go_simp; try with_reducible rfl
            simp only [List.setIfInBounds_toArray, List.set_cons_zero, List.set_cons_succ]
            refine take_yes (i := 1) (d := 27) (v := ?_) (fuel := 16) rfl rfl (by kernel_rfl) (by kernel_rfl) (by kernel_rfl) (fun _ _ _ h => h) (by rfl) ?_ (by assumption) ?_
            rotate_left
            · intro w hSw; (try dsimp only at hSw); go_simp; try with_reducible rfl
            simp only [List.setIfInBounds_toArray, List.set_cons_zero, List.set_cons_succ]
            refine take_yes (i := 2) (d := 28) (v := ?_) (fuel := 15) rfl rfl (by kernel_rfl) (by kernel_rfl) (by kernel_rfl) (fun _ _ _ h => h) (by rfl) ?_ (by assumption) ?_
            rotate_left
            · intro w hSw; (try dsimp only at hSw); go_simp; try with_reducible rfl
            simp only [List.setIfInBounds_toArray, List.set_cons_zero, List.set_cons_succ]
            refine take_yes (i := 3) (d := 29) (v := ?_) (fuel := 14) rfl rfl (by kernel_rfl) (by kernel_rfl) (by kernel_rfl) (fun _ _ _ h => h) (by rfl) ?_ (by assumption) ?_
            rotate_left
            · intro w hSw; (try dsimp only at hSw); obtain ⟨d0, d1, d2, d3, dz⟩ := hSw.cells; go_simp; try with_reducible rfl
            simp only [List.setIfInBounds_toArray, List.set_cons_zero, List.set_cons_succ]
            refine take_yes (i := 4) (d := 30) (v := ?_) (fuel := 13) rfl rfl (by kernel_rfl) (by kernel_rfl) (by kernel_rfl) (fun _ _ _ h => h) (by rfl) ?_ (by assumption) ?_
            rotate_left
            · intro w hSw; (try dsimp only at hSw); obtain ⟨d0, d1, d2, d3, dz⟩ := hSw.cells; go_simp; try with_reducible rfl
            simp only [List.setIfInBounds_toArray, List.set_cons_zero, List.set_cons_succ]
            refine take_yes (i := 5) (d := 31) (v := ?_) (fuel := 12) rfl rfl (by kernel_rfl) (by kernel_rfl) (by kernel_rfl) (fun _ _ _ h => h) (by rfl) ?_ (by assumption) ?_
            rotate_left
            · intro w hSw; (try dsimp only at hSw); go_simp; try with_reducible rfl
            simp only [List.setIfInBounds_toArray, List.set_cons_zero, List.set_cons_succ]
            refine take_yes (i := 6) (d := 32) (v := ?_) (fuel := 11) rfl rfl (by kernel_rfl) (by kernel_rfl) (by kernel_rfl) (fun _ _ _ h => h) (by rfl) ?_ (by assumption) ?_
            rotate_left
            · intro w hSw; (try dsimp only at hSw); go_simp; try with_reducible rfl
            simp only [List.setIfInBounds_toArray, List.set_cons_zero, List.set_cons_succ]
            refine take_yes (i := 7) (d := 33) (v := ?_) (fuel := 10) rfl rfl (by kernel_rfl) (by kernel_rfl) (by kernel_rfl) (fun _ _ _ h => h) (by rfl) ?_ (by assumption) ?_
            rotate_left
            · intro w hSw; (try dsimp only at hSw); obtain ⟨d0, d1, d2, d3, dz⟩ := hSw.cells; go_simp; try with_reducible rfl
            simp only [List.setIfInBounds_toArray, List.set_cons_zero, List.set_cons_succ]
            refine take_yes (i := 8) (d := 34) (v := ?_) (fuel := 9) rfl rfl (by kernel_rfl) (by kernel_rfl) (by kernel_rfl) (fun _ _ _ h => h) (by rfl) ?_ (by assumption) ?_
            rotate_left
            · intro w hSw; (try dsimp only at hSw); go_simp; try with_reducible rfl
            simp only [List.setIfInBounds_toArray, List.set_cons_zero, List.set_cons_succ]
            refine wpAnyH_ready (rs := [9, 14]) (by kernel_rfl) (by simp) ?_
            refine AllReadyH.cons rfl (fun K hK => ?_) (AllReadyH.cons rfl (fun K hK => ?_) AllReadyH.nil)
            · go_simp
              go_at_call 59
              refine (unhide H59 _).mono ?_
              rintro e w' ⟨rfl, hf⟩
              have hq' : RdAt w' vb rb s (a : Nat) (0 : Nat) := (unhide QR).drew.block (hf.same vb hvz (fun h => h)) (hf.same rb hrz (fun h => h))
              have hvz' : vb < w'.heap.size := (Array.getElem?_eq_some_iff.1 hq'.v).1
              have hrz' : rb < w'.heap.size := (Array.getElem?_eq_some_iff.1 hq'.r).1
              have HF1 := hide (hf.nilF)
              clear hf
              refine hK.out _ _ hq' (fun hHeld => ?_)
              clear hK K
              refine take_yes (i := 10) (d := 25) (v := ?_) (fuel := 7) rfl rfl (by kernel_rfl) (by kernel_rfl) (by kernel_rfl) (fun _ _ _ h => h) (by rfl) ?_ (by assumption) ?_
              rotate_left
              · intro w hSw; (try dsimp only at hSw); go_simp; try with_reducible rfl
              simp only [List.setIfInBounds_toArray, List.set_cons_zero, List.set_cons_succ]
              refine take_yes (i := 11) (d := 36) (v := ?_) (fuel := 6) rfl rfl (by kernel_rfl) (by kernel_rfl) (by kernel_rfl) (fun _ _ _ h => h) (by rfl) ?_ (by assumption) ?_
              rotate_left
              · intro w hSw; (try dsimp only at hSw); go_simp; try with_reducible rfl
              simp only [List.setIfInBounds_toArray, List.set_cons_zero, List.set_cons_succ]
              refine take_yes (i := 12) (d := 37) (v := ?_) (fuel := 5) rfl rfl (by kernel_rfl) (by kernel_rfl) (by kernel_rfl) (fun _ _ _ h => h) (by rfl) ?_ (by assumption) ?_
              rotate_left
              · intro w hSw; (try dsimp only at hSw); go_simp; try with_reducible rfl
              simp only [List.setIfInBounds_toArray, List.set_cons_zero, List.set_cons_succ]
              refine take_yes (i := 13) (d := 38) (v := ?_) (fuel := 4) rfl rfl (by kernel_rfl) (by kernel_rfl) (by kernel_rfl) (fun _ _ _ h => h) (by rfl) ?_ (by assumption) ?_
              rotate_left
              · intro w hSw; (try dsimp only at hSw); go_simp; try with_reducible rfl
              simp only [List.setIfInBounds_toArray, List.set_cons_zero, List.set_cons_succ]
              refine wpAnyH_ready (rs := [14]) (by kernel_rfl) (by simp) ?_
              refine AllReadyH.cons rfl (fun K hK => ?_) AllReadyH.nil
              go_simp
              refine hK.out _ _ (hq'.block (Below.heap_alloc _ _ _ hvz') (Below.heap_alloc _ _ _ hrz')) (fun hHeld => ?_)
              clear hK K
              refine wpAnyH_ready (rs := [15]) (by kernel_rfl) (by simp) ?_
              refine AllReadyH.cons rfl (fun K hK => ?_) AllReadyH.nil
              go_simp
              refine hK.out _ _ (hq'.block (Below.heap_alloc _ _ _ hvz') (Below.heap_alloc _ _ _ hrz')) (fun hHeld => ?_)
              clear hK K
              refine take_yes (i := 16) (d := 4) (v := ?_) (fuel := 1) rfl rfl (by kernel_rfl) (by kernel_rfl) (by kernel_rfl) (fun _ _ _ h => h) (by rfl) ?_ (by assumption) ?_
              rotate_left
              · intro w hSw; (try dsimp only at hSw); go_simp; try with_reducible rfl
              simp only [List.setIfInBounds_toArray, List.set_cons_zero, List.set_cons_succ]
              refine take_yes (i := 17) (d := 5) (v := ?_) (fuel := 0) rfl rfl (by kernel_rfl) (by kernel_rfl) (by kernel_rfl) (fun _ _ _ h => h) (by rfl) ?_ (by assumption) ?_
              rotate_left
              · intro w hSw; (try dsimp only at hSw); go_simp; try with_reducible rfl
              simp only [List.setIfInBounds_toArray, List.set_cons_zero, List.set_cons_succ]
              refine wpAnyH_done (by kernel_rfl) ?_ _
              go_wp2
              go_meet
              exact ⟨rfl, (unhide HF1).alloc _⟩
            · go_simp
              have hq0 : RdAt (wr.drew.alloc (.cells #[.int .i64 0, .int .i64 0, .int .i64 0, .slice none 0 0] 49)) vb rb s (a : Nat) (0 : Nat) := (unhide QR).drew.block (Below.heap_alloc _ _ _ hvz) (Below.heap_alloc _ _ _ hrz)
              refine hK.out _ _ hq0 (fun hHeld => ?_)
              clear hK K
              refine wpAnyH_ready (rs := [9]) (by kernel_rfl) (by simp) ?_
              refine AllReadyH.cons rfl (fun K hK => ?_) AllReadyH.nil
              go_simp
              go_at_call 59
              refine (unhide H59 _).mono ?_
              rintro e w' ⟨rfl, hf⟩
              have hq' : RdAt w' vb rb s (a : Nat) (0 : Nat) := hq0.block (hf.same vb (by show vb < (World.alloc _ _).heap.size; simp; omega) (fun h => h)) (hf.same rb (by show rb < (World.alloc _ _).heap.size; simp; omega) (fun h => h))
              have hvn : vb ≠ wr.heap.size := by omega
              have hrn : rb ≠ wr.heap.size := by omega
              obtain ⟨⟨r0, r1, r2, r3⟩, rz⟩ := resB (w := wr.drew) hf
              change w'.cell? ⟨wr.heap.size, 0, none⟩ = _ at r0
              change w'.cell? ⟨wr.heap.size, 1, none⟩ = _ at r1
              change w'.cell? ⟨wr.heap.size, 2, none⟩ = _ at r2
              change w'.cell? ⟨wr.heap.size, 3, none⟩ = _ at r3
              change ∀ j, w'.frozen? ⟨wr.heap.size, j, none⟩ = _ at rz
              have hnz : w'.heap[wr.heap.size]? = some (.cells #[.int .i64 0, .int .i64 0, .int .i64 0, .slice none 0 0] 49) := (hf.same wr.heap.size (by show wr.heap.size < (World.alloc _ _).heap.size; simp) (fun h => h)).trans (heap_alloc_new wr.drew _)
              have HNZ := hide hnz
              have HF1 := hide (hf.unalloc.nilF)
              clear hf hnz
              refine hK.out _ _ hq' (fun hHeld => ?_)
              clear hK K
              refine take_yes (i := 10) (d := 25) (v := ?_) (fuel := 6) rfl rfl (by kernel_rfl) (by kernel_rfl) (by kernel_rfl) (fun _ _ _ h => h) (by rfl) ?_ (by assumption) ?_
              rotate_left
              · intro w hSw; (try dsimp only at hSw); go_simp; try with_reducible rfl
              simp only [List.setIfInBounds_toArray, List.set_cons_zero, List.set_cons_succ]
              refine take_yes (i := 11) (d := 36) (v := ?_) (fuel := 5) rfl rfl (by kernel_rfl) (by kernel_rfl) (by kernel_rfl) (fun _ _ _ h => h) (by rfl) ?_ (by assumption) ?_
              rotate_left
              · intro w hSw; (try dsimp only at hSw); go_simp; try with_reducible rfl
              simp only [List.setIfInBounds_toArray, List.set_cons_zero, List.set_cons_succ]
              refine take_yes (i := 12) (d := 37) (v := ?_) (fuel := 4) rfl rfl (by kernel_rfl) (by kernel_rfl) (by kernel_rfl) (fun _ _ _ h => h) (by rfl) ?_ (by assumption) ?_
              rotate_left
              · intro w hSw; (try dsimp only at hSw); go_simp; try with_reducible rfl
              simp only [List.setIfInBounds_toArray, List.set_cons_zero, List.set_cons_succ]
              refine take_yes (i := 13) (d := 38) (v := ?_) (fuel := 3) rfl rfl (by kernel_rfl) (by kernel_rfl) (by kernel_rfl) (fun _ _ _ h => h) (by rfl) ?_ (by assumption) ?_
              rotate_left
              · intro w hSw; (try dsimp only at hSw); go_simp; try with_reducible rfl
              simp only [List.setIfInBounds_toArray, List.set_cons_zero, List.set_cons_succ]
              refine wpAnyH_ready (rs := [15]) (by kernel_rfl) (by simp) ?_
              refine AllReadyH.cons rfl (fun K hK => ?_) AllReadyH.nil
              go_simp
              refine hK.out _ _ (hq'.block (out4_other hvn _ _ _ _) (out4_other hrn _ _ _ _)) (fun hHeld => ?_)
              clear hK K
              refine take_yes (i := 16) (d := 4) (v := ?_) (fuel := 1) rfl rfl (by kernel_rfl) (by kernel_rfl) (by kernel_rfl) (fun _ _ _ h => h) (by rfl) ?_ (by assumption) ?_
              rotate_left
              · intro w hSw; (try dsimp only at hSw); go_simp; try with_reducible rfl
              simp only [List.setIfInBounds_toArray, List.set_cons_zero, List.set_cons_succ]
              refine take_yes (i := 17) (d := 5) (v := ?_) (fuel := 0) rfl rfl (by kernel_rfl) (by kernel_rfl) (by kernel_rfl) (fun _ _ _ h => h) (by rfl) ?_ (by assumption) ?_
              rotate_left
              · intro w hSw; (try dsimp only at hSw); go_simp; try with_reducible rfl
              simp only [List.setIfInBounds_toArray, List.set_cons_zero, List.set_cons_succ]
              refine wpAnyH_done (by kernel_rfl) ?_ _
              go_wp2
              go_meet
              exact ⟨rfl, out4_fr (unhide HF1) (.inr (Nat.le_refl _)) _ _ _ _⟩
          case rest =>
            obtain ⟨rfl, hf⟩ := hcut
            have hq := (unhide QR).block (hf.same vb hvz (fun h => h)) (hf.same rb hrz (fun h => h))
            obtain ⟨d0, d1, d2, d3, dz⟩ := hq.cells
            have HF1 := hide ((hf.to (fun k => k = rb)).setCell ⟨rb, 2, none⟩ (.int .i64 w) (.inl rfl))
            have HQ := hide (hq.set2 w)
            clear hf hq
            go_wp2
            refine bodyPost_ret (results_none rfl _ _ _) rfl ⟨⟨_, rfl⟩, ⟨ps, (unhide QJ).reader (unhide HF1), by rw [unhide HF], by rw [unhide HF]; exact unhide HQ⟩, unhide HBR _ _ _ _ (unhide QB) (unhide QR) (unhide HF1)⟩
        | inr q =>
          obtain ⟨x, k⟩ := q
          have hkz := rcL_size _ _ _ hrc
          rw [List.length_drop, bs_len] at hkz
          have h59' : ∀ W : World, Calls Tryz.prog 59 #[.string (s.extract a s.size)] W fun e w' => ∃ fa fl fc, e = .returned (.tuple #[.agg #[.int .i64 x.1, .int .i64 x.2.1, .int .i64 x.2.2.1, .slice fa fl fc], .int .i64 k, .int .i64 0]) ∧ OwnI w' (W.heap.size + 1) (.slice fa fl fc) (zs x.2.2.2) ∧ Fr (fun _ => False) W w' (fun _ => False) := fun W => (h59 W).mono fun e w' h => by
            unfold RcPost at h; rw [hbs, hrc] at h; obtain ⟨h1, fa, fl, fc, h2, h3⟩ := h; exact ⟨fa, fl, fc, h2, h3, h1⟩
          have H59 := hide h59'
          have HRC := hide hrc
          have HST := hide hst
          have QJ := hide qj
          have QR := hide qr
          have QB := hide qb
          clear h59 h59' hst hrc hbs qj qr qb hsz
          go_upto_region 2 with fail
          go_cut [3, 4, 5] (fun u3 u4 u5 wc => ∃ nb fa fl fc, u3 = .pointer (some ⟨nb, 0, none⟩) ∧ u4 = .int .i64 k ∧ u5 = .int .i64 0 ∧ wc.heap[nb]? = some (.cells #[.int .i64 x.1, .int .i64 x.2.1, .int .i64 x.2.2.1, .slice fa fl fc] 49) ∧ Fr (fun _ => False) wr wc (fun _ => False) ∧ wr.heap.size ≤ nb ∧ OwnI wc wr.heap.size (.slice fa fl fc) (zs x.2.2.2) ∧ ∀ q, own (.slice fa fl fc) q → q ≠ nb)
          case first =>
            refine wp_region_held_drew (S := fun w' => RdAt w' vb rb s (a : Nat) (0 : Nat)) (by kernel_rfl) (unhide QR).drew (fun hHeld => ?_)
            refine take_yes (i := 0) (d := 26) (v := ?_) (fuel := 17) rfl rfl (by kernel_rfl) (by kernel_rfl) (by kernel_rfl) (fun _ _ _ h => h) (by rfl) ?_ (by assumption) ?_
            rotate_left
            · intro w hSw; (try dsimp only at hSw); obtain ⟨d0, d1, d2, d3, dz⟩ := hSw.cells; go_simp; try with_reducible rfl
            simp only [List.setIfInBounds_toArray, List.set_cons_zero, List.set_cons_succ]
            refine take_yes (i := 1) (d := 27) (v := ?_) (fuel := 16) rfl rfl (by kernel_rfl) (by kernel_rfl) (by kernel_rfl) (fun _ _ _ h => h) (by rfl) ?_ (by assumption) ?_
            rotate_left
            · intro w hSw; (try dsimp only at hSw); go_simp; try with_reducible rfl
            simp only [List.setIfInBounds_toArray, List.set_cons_zero, List.set_cons_succ]
            refine take_yes (i := 2) (d := 28) (v := ?_) (fuel := 15) rfl rfl (by kernel_rfl) (by kernel_rfl) (by kernel_rfl) (fun _ _ _ h => h) (by rfl) ?_ (by assumption) ?_
            rotate_left
            · intro w hSw; (try dsimp only at hSw); go_simp; try with_reducible rfl
            simp only [List.setIfInBounds_toArray, List.set_cons_zero, List.set_cons_succ]
            refine take_yes (i := 3) (d := 29) (v := ?_) (fuel := 14) rfl rfl (by kernel_rfl) (by kernel_rfl) (by kernel_rfl) (fun _ _ _ h => h) (by rfl) ?_ (by assumption) ?_
            rotate_left
            · intro w hSw; (try dsimp only at hSw); obtain ⟨d0, d1, d2, d3, dz⟩ := hSw.cells; go_simp; try with_reducible rfl
            simp only [List.setIfInBounds_toArray, List.set_cons_zero, List.set_cons_succ]
            refine take_yes (i := 4) (d := 30) (v := ?_) (fuel := 13) rfl rfl (by kernel_rfl) (by kernel_rfl) (by kernel_rfl) (fun _ _ _ h => h) (by rfl) ?_ (by assumption) ?_
            rotate_left
            · intro w hSw; (try dsimp only at hSw); obtain ⟨d0, d1, d2, d3, dz⟩ := hSw.cells; go_simp; try with_reducible rfl
            simp only [List.setIfInBounds_toArray, List.set_cons_zero, List.set_cons_succ]
            refine take_yes (i := 5) (d := 31) (v := ?_) (fuel := 12) rfl rfl (by kernel_rfl) (by kernel_rfl) (by kernel_rfl) (fun _ _ _ h => h) (by rfl) ?_ (by assumption) ?_
            rotate_left
            · intro w hSw; (try dsimp only at hSw); go_simp; try with_reducible rfl
            simp only [List.setIfInBounds_toArray, List.set_cons_zero, List.set_cons_succ]
            refine take_yes (i := 6) (d := 32) (v := ?_) (fuel := 11) rfl rfl (by kernel_rfl) (by kernel_rfl) (by kernel_rfl) (fun _ _ _ h => h) (by rfl) ?_ (by assumption) ?_
            rotate_left
            · intro w hSw; (try dsimp only at hSw); go_simp; try with_reducible rfl
            simp only [List.setIfInBounds_toArray, List.set_cons_zero, List.set_cons_succ]
            refine take_yes (i := 7) (d := 33) (v := ?_) (fuel := 10) rfl rfl (by kernel_rfl) (by kernel_rfl) (by kernel_rfl) (fun _ _ _ h => h) (by rfl) ?_ (by assumption) ?_
            rotate_left
            · intro w hSw; (try dsimp only at hSw); obtain ⟨d0, d1, d2, d3, dz⟩ := hSw.cells; go_simp; try with_reducible rfl
            simp only [List.setIfInBounds_toArray, List.set_cons_zero, List.set_cons_succ]
            refine take_yes (i := 8) (d := 34) (v := ?_) (fuel := 9) rfl rfl (by kernel_rfl) (by kernel_rfl) (by kernel_rfl) (fun _ _ _ h => h) (by rfl) ?_ (by assumption) ?_
            rotate_left
            · intro w hSw; (try dsimp only at hSw); go_simp; try with_reducible rfl
            simp only [List.setIfInBounds_toArray, List.set_cons_zero, List.set_cons_succ]
            refine wpAnyH_ready (rs := [9, 14]) (by kernel_rfl) (by simp) ?_
            refine AllReadyH.cons rfl (fun K hK => ?_) (AllReadyH.cons rfl (fun K hK => ?_) AllReadyH.nil)
            · go_simp
              go_at_call 59
              refine (unhide H59 _).mono ?_
              rintro e w' ⟨fa, fl, fc, rfl, ho, hf⟩
              have hq' : RdAt w' vb rb s (a : Nat) (0 : Nat) := (unhide QR).drew.block (hf.same vb hvz (fun h => h)) (hf.same rb hrz (fun h => h))
              have hvz' : vb < w'.heap.size := (Array.getElem?_eq_some_iff.1 hq'.v).1
              have hrz' : rb < w'.heap.size := (Array.getElem?_eq_some_iff.1 hq'.r).1
              have HF1 := hide (hf.nilF)
              have HO := hide ho
              clear ho
              clear hf
              refine hK.out _ _ hq' (fun hHeld => ?_)
              clear hK K
              refine take_yes (i := 10) (d := 25) (v := ?_) (fuel := 7) rfl rfl (by kernel_rfl) (by kernel_rfl) (by kernel_rfl) (fun _ _ _ h => h) (by rfl) ?_ (by assumption) ?_
              rotate_left
              · intro w hSw; (try dsimp only at hSw); go_simp; try with_reducible rfl
              simp only [List.setIfInBounds_toArray, List.set_cons_zero, List.set_cons_succ]
              refine take_yes (i := 11) (d := 36) (v := ?_) (fuel := 6) rfl rfl (by kernel_rfl) (by kernel_rfl) (by kernel_rfl) (fun _ _ _ h => h) (by rfl) ?_ (by assumption) ?_
              rotate_left
              · intro w hSw; (try dsimp only at hSw); go_simp; try with_reducible rfl
              simp only [List.setIfInBounds_toArray, List.set_cons_zero, List.set_cons_succ]
              refine take_yes (i := 12) (d := 37) (v := ?_) (fuel := 5) rfl rfl (by kernel_rfl) (by kernel_rfl) (by kernel_rfl) (fun _ _ _ h => h) (by rfl) ?_ (by assumption) ?_
              rotate_left
              · intro w hSw; (try dsimp only at hSw); go_simp; try with_reducible rfl
              simp only [List.setIfInBounds_toArray, List.set_cons_zero, List.set_cons_succ]
              refine take_yes (i := 13) (d := 38) (v := ?_) (fuel := 4) rfl rfl (by kernel_rfl) (by kernel_rfl) (by kernel_rfl) (fun _ _ _ h => h) (by rfl) ?_ (by assumption) ?_
              rotate_left
              · intro w hSw; (try dsimp only at hSw); go_simp; try with_reducible rfl
              simp only [List.setIfInBounds_toArray, List.set_cons_zero, List.set_cons_succ]
              refine wpAnyH_ready (rs := [14]) (by kernel_rfl) (by simp) ?_
              refine AllReadyH.cons rfl (fun K hK => ?_) AllReadyH.nil
              go_simp
              refine hK.out _ _ (hq'.block (Below.heap_alloc _ _ _ hvz') (Below.heap_alloc _ _ _ hrz')) (fun hHeld => ?_)
              clear hK K
              refine wpAnyH_ready (rs := [15]) (by kernel_rfl) (by simp) ?_
              refine AllReadyH.cons rfl (fun K hK => ?_) AllReadyH.nil
              go_simp
              refine hK.out _ _ (hq'.block (Below.heap_alloc _ _ _ hvz') (Below.heap_alloc _ _ _ hrz')) (fun hHeld => ?_)
              clear hK K
              refine take_yes (i := 16) (d := 4) (v := ?_) (fuel := 1) rfl rfl (by kernel_rfl) (by kernel_rfl) (by kernel_rfl) (fun _ _ _ h => h) (by rfl) ?_ (by assumption) ?_
              rotate_left
              · intro w hSw; (try dsimp only at hSw); go_simp; try with_reducible rfl
              simp only [List.setIfInBounds_toArray, List.set_cons_zero, List.set_cons_succ]
              refine take_yes (i := 17) (d := 5) (v := ?_) (fuel := 0) rfl rfl (by kernel_rfl) (by kernel_rfl) (by kernel_rfl) (fun _ _ _ h => h) (by rfl) ?_ (by assumption) ?_
              rotate_left
              · intro w hSw; (try dsimp only at hSw); go_simp; try with_reducible rfl
              simp only [List.setIfInBounds_toArray, List.set_cons_zero, List.set_cons_succ]
              refine wpAnyH_done (by kernel_rfl) ?_ _
              go_wp2
              go_meet
              exact ⟨w'.heap.size, fa, fl, fc, rfl, rfl, rfl, heap_alloc_new _ _, (unhide HF1).alloc _, (unhide HF1).size, ownsRow_of_block (ownsRow_low (unhide HO) (Nat.le_succ _)) (fun q hq => Below.heap_alloc _ _ _ (World.ownsRow.lt (unhide HO) q hq).2), fun q hq => by have := (World.ownsRow.lt (unhide HO) q hq).2; omega⟩
            · go_simp
              have hq0 : RdAt (wr.drew.alloc (.cells #[.int .i64 0, .int .i64 0, .int .i64 0, .slice none 0 0] 49)) vb rb s (a : Nat) (0 : Nat) := (unhide QR).drew.block (Below.heap_alloc _ _ _ hvz) (Below.heap_alloc _ _ _ hrz)
              refine hK.out _ _ hq0 (fun hHeld => ?_)
              clear hK K
              refine wpAnyH_ready (rs := [9]) (by kernel_rfl) (by simp) ?_
              refine AllReadyH.cons rfl (fun K hK => ?_) AllReadyH.nil
              go_simp
              go_at_call 59
              refine (unhide H59 _).mono ?_
              rintro e w' ⟨fa, fl, fc, rfl, ho, hf⟩
              have hq' : RdAt w' vb rb s (a : Nat) (0 : Nat) := hq0.block (hf.same vb (by show vb < (World.alloc _ _).heap.size; simp; omega) (fun h => h)) (hf.same rb (by show rb < (World.alloc _ _).heap.size; simp; omega) (fun h => h))
              have hvn : vb ≠ wr.heap.size := by omega
              have hrn : rb ≠ wr.heap.size := by omega
              obtain ⟨⟨r0, r1, r2, r3⟩, rz⟩ := resB (w := wr.drew) hf
              change w'.cell? ⟨wr.heap.size, 0, none⟩ = _ at r0
              change w'.cell? ⟨wr.heap.size, 1, none⟩ = _ at r1
              change w'.cell? ⟨wr.heap.size, 2, none⟩ = _ at r2
              change w'.cell? ⟨wr.heap.size, 3, none⟩ = _ at r3
              change ∀ j, w'.frozen? ⟨wr.heap.size, j, none⟩ = _ at rz
              have hnz : w'.heap[wr.heap.size]? = some (.cells #[.int .i64 0, .int .i64 0, .int .i64 0, .slice none 0 0] 49) := (hf.same wr.heap.size (by show wr.heap.size < (World.alloc _ _).heap.size; simp) (fun h => h)).trans (heap_alloc_new wr.drew _)
              have HNZ := hide hnz
              have HF1 := hide (hf.unalloc.nilF)
              have HO := hide ho
              clear ho
              clear hf hnz
              refine hK.out _ _ hq' (fun hHeld => ?_)
              clear hK K
              refine take_yes (i := 10) (d := 25) (v := ?_) (fuel := 6) rfl rfl (by kernel_rfl) (by kernel_rfl) (by kernel_rfl) (fun _ _ _ h => h) (by rfl) ?_ (by assumption) ?_
              rotate_left
              · intro w hSw; (try dsimp only at hSw); go_simp; try with_reducible rfl
              simp only [List.setIfInBounds_toArray, List.set_cons_zero, List.set_cons_succ]
              refine take_yes (i := 11) (d := 36) (v := ?_) (fuel := 5) rfl rfl (by kernel_rfl) (by kernel_rfl) (by kernel_rfl) (fun _ _ _ h => h) (by rfl) ?_ (by assumption) ?_
              rotate_left
              · intro w hSw; (try dsimp only at hSw); go_simp; try with_reducible rfl
              simp only [List.setIfInBounds_toArray, List.set_cons_zero, List.set_cons_succ]
              refine take_yes (i := 12) (d := 37) (v := ?_) (fuel := 4) rfl rfl (by kernel_rfl) (by kernel_rfl) (by kernel_rfl) (fun _ _ _ h => h) (by rfl) ?_ (by assumption) ?_
              rotate_left
              · intro w hSw; (try dsimp only at hSw); go_simp; try with_reducible rfl
              simp only [List.setIfInBounds_toArray, List.set_cons_zero, List.set_cons_succ]
              refine take_yes (i := 13) (d := 38) (v := ?_) (fuel := 3) rfl rfl (by kernel_rfl) (by kernel_rfl) (by kernel_rfl) (fun _ _ _ h => h) (by rfl) ?_ (by assumption) ?_
              rotate_left
              · intro w hSw; (try dsimp only at hSw); go_simp; try with_reducible rfl
              simp only [List.setIfInBounds_toArray, List.set_cons_zero, List.set_cons_succ]
              refine wpAnyH_ready (rs := [15]) (by kernel_rfl) (by simp) ?_
              refine AllReadyH.cons rfl (fun K hK => ?_) AllReadyH.nil
              go_simp
              refine hK.out _ _ (hq'.block (out4_other hvn _ _ _ _) (out4_other hrn _ _ _ _)) (fun hHeld => ?_)
              clear hK K
              refine take_yes (i := 16) (d := 4) (v := ?_) (fuel := 1) rfl rfl (by kernel_rfl) (by kernel_rfl) (by kernel_rfl) (fun _ _ _ h => h) (by rfl) ?_ (by assumption) ?_
              rotate_left
              · intro w hSw; (try dsimp only at hSw); go_simp; try with_reducible rfl
              simp only [List.setIfInBounds_toArray, List.set_cons_zero, List.set_cons_succ]
              refine take_yes (i := 17) (d := 5) (v := ?_) (fuel := 0) rfl rfl (by kernel_rfl) (by kernel_rfl) (by kernel_rfl) (fun _ _ _ h => h) (by rfl) ?_ (by assumption) ?_
              rotate_left
              · intro w hSw; (try dsimp only at hSw); go_simp; try with_reducible rfl
              simp only [List.setIfInBounds_toArray, List.set_cons_zero, List.set_cons_succ]
              refine wpAnyH_done (by kernel_rfl) ?_ _
              go_wp2
              go_meet
              have ho := unhide HO
              have hsz1 : ((wr.alloc (.cells #[.int .i64 0, .int .i64 0, .int .i64 0, .slice none 0 0] 49)).drew).heap.size = wr.heap.size + 1 := by show (World.alloc _ _).heap.size = _; simp
              rw [hsz1] at ho
              have hqn : ∀ q, own (.slice fa fl fc) q → q ≠ wr.heap.size := fun q hq => by have := (World.ownsRow.lt ho q hq).1; omega
              exact ⟨wr.heap.size, fa, fl, fc, rfl, rfl, rfl, out4 (unhide HNZ) _ _ _ _, out4_fr (unhide HF1) (.inr (Nat.le_refl _)) _ _ _ _, Nat.le_refl _, ownsRow_of_block (ownsRow_low ho (by omega)) (fun q hq => out4_other (hqn q hq) _ _ _ _), hqn⟩
          case rest =>
            obtain ⟨nb, fa, fl, fc, rfl, rfl, rfl, hnb, hf, hnz, ho, hon⟩ := hcut
            have hq := (unhide QR).block (hf.same vb hvz (fun h => h)) (hf.same rb hrz (fun h => h))
            obtain ⟨d0, d1, d2, d3, dz⟩ := hq.cells
            have e0 : wc.cell? ⟨nb, 0, none⟩ = some (.int .i64 x.1) := cell_of_row _ _ 0 _ 49 (0, 0) hnb
            have e1 : wc.cell? ⟨nb, 1, none⟩ = some (.int .i64 x.2.1) := cell_of_row _ _ 1 _ 49 (0, 0) hnb
            have e2 : wc.cell? ⟨nb, 2, none⟩ = some (.int .i64 x.2.2.1) := cell_of_row _ _ 2 _ 49 (0, 0) hnb
            have e3 : wc.cell? ⟨nb, 3, none⟩ = some (.slice fa fl fc) := cell_of_row _ _ 3 _ 49 (0, 0) hnb
            have hnr : nb ≠ rb := by omega
            have hnr' : rb ≠ nb := by omega
            have hak : (a : Int) + (k : Int) ≤ 1000000000 := by omega
            have hak0 : (0 : Int) ≤ (a : Int) + (k : Int) := by omega
            have hak1 : (a : Int) + (k : Int) ≤ s.size := by omega
            have HQ1 := hide (hq.set1 ((a : Int) + (k : Int)))
            have HF1 := hide ((hf.to (fun k => k = rb)).setCell ⟨rb, 1, none⟩ (.int .i64 ((a : Int) + (k : Int))) (.inl rfl))
            have HO := hide ho
            have HON := hide hon
            have HNB := hide hnb
            clear hf hq ho hon hnb
            by_cases hx5 : x.1 = 5
            · have hxb : ((x.1 : Int) == 5) = true := beq_iff_eq.2 (by omega)
              have HX5 := hide hx5
              clear hx5
              have h60 := behind_any (s.extract (a + k) s.size)
              have hsz2 : (s.extract (a + k) s.size).size = s.size - (a + k) := by rw [ByteArray.size_extract]; omega
              rw [hsz2] at h60
              obtain ⟨z, hz⟩ : ∃ z : Nat, z = if 0 < s.size - (a + k) then 5 else 1 := ⟨_, rfl⟩
              have hzI : (if 0 < s.size - (a + k) then (5 : Int) else 1) = (z : Int) := by rw [hz]; split <;> rfl
              rw [hzI] at h60
              have H60 := hide h60
              have HZ := hide hz
              clear h60 hzI hz hsz2
              go_upto_region 7 with fail
              go_cut [66] (fun u wd => RdAt wd vb rb s ((a : Int) + (k : Int)) z ∧ Fr (fun k => k = rb) (wc.setCell ⟨rb, 1, none⟩ (.int .i64 ((a : Int) + (k : Int)))) wd (fun k => k = rb))
              case first =>
                obtain ⟨g0, g1, g2, g3, gz⟩ := (unhide HQ1).cells
                go_region_held3 (fun w' => w'.cell? ⟨vb, 0, none⟩ = some (.pointer (some ⟨rb, 0, none⟩)) ∧ w'.cell? ⟨rb, 0, none⟩ = some (.string s) ∧ w'.cell? ⟨rb, 1, none⟩ = some (.int .i64 ((a : Int) + (k : Int)))) (simp [go_sem, g0, g1, g2]) (first | (go_at_call 60; refine (unhide H60 _).mono ?_; rintro e w' ⟨rfl, rfl⟩))
                all_goals (go_wp2_with fail; go_meet; exact ⟨((unhide HQ1).set2 z).drew, ((Fr.refl (fun k => k = rb) _).setCell ⟨rb, 2, none⟩ _ (.inl rfl)).drew⟩)
              case rest =>
              obtain ⟨hr4, hf4⟩ := hcut
              have hf5 := (unhide HF1).trans hf4
              have hyr := yr_of (y := ⟨ps, x, fa, fl, fc, (a : Int) + (k : Int), (z : Nat)⟩) (unhide QJ) (unhide QR) hf5 hr4 (unhide HO) (fun q hq hlt => (hf4.same q (by simpa [World.setCell] using hlt) hq).trans (Below.heap_setCell _ _ _ _ hq)) (by show ps.length ≤ _; omega)
              have hbk' := unhide HBR _ _ _ _ (unhide QB) (unhide QR) hf5
              have hnb2 := (hf4.same nb (by simp [World.setCell]; exact (Array.getElem?_eq_some_iff.1 (unhide HNB)).1) hnr).trans ((Below.heap_setCell _ _ _ _ hnr).trans (unhide HNB))
              clear e0 e1 e2 e3
              have e0 : wc.cell? ⟨nb, 0, none⟩ = some (.int .i64 x.1) := cell_of_row _ _ 0 _ 49 (0, 0) hnb2
              have e1 : wc.cell? ⟨nb, 1, none⟩ = some (.int .i64 x.2.1) := cell_of_row _ _ 1 _ 49 (0, 0) hnb2
              have e2 : wc.cell? ⟨nb, 2, none⟩ = some (.int .i64 x.2.2.1) := cell_of_row _ _ 2 _ 49 (0, 0) hnb2
              have e3 : wc.cell? ⟨nb, 3, none⟩ = some (.slice fa fl fc) := cell_of_row _ _ 3 _ 49 (0, 0) hnb2
              clear hr4 hf4 hf5 hnb2
              go_upto_region 8 with fail
              obtain ⟨yfn, ytmps, yas, ybd, hy, hR⟩ := unhide HY _ _ hyr hbk'
              simp only [YA.enc] at hy
              have HRR := hide hR
              clear hyr hR hbk'
              refine (wpIn_wide (n := n + 1)).1 ?_
              gi_wp2
              refine (unhide HRR).mono ?_
              rintro e W3 ⟨rfl, ⟨hj3, hr3⟩, hb3⟩
              have HJ3 := hide hj3
              have HR3 := hide hr3
              have HB3 := hide hb3
              clear hj3 hr3 hb3 hy
              gi_wp2
              go_wp2
              go_roundg (gk - 1)
              case rel => exact ⟨ps ++ [(x, .slice fa fl fc)], a + k, z, unhide HJ3, unhide HR3, unhide HB3, by rw [List.length_append]; simp only [List.length_cons, List.length_nil]; omega, .inr (lrel_end (unhide HST) (unhide HRC) (unhide HX5) (unhide HZ))⟩
              case measure => omega
            · have hxb : ((x.1 : Int) == 5) = false := beq_eq_false_iff_ne.2 (by omega)
              have HX5 := hide hx5
              clear hx5
              go_upto_region 8 with fail
              have hyr := yr_of (y := ⟨ps, x, fa, fl, fc, (a : Int) + (k : Int), (0 : Nat)⟩) (unhide QJ) (unhide QR) (unhide HF1) (unhide HQ1) (unhide HO) (fun q hq _ => Below.heap_setCell _ _ _ _ hq) (by show ps.length ≤ _; omega)
              have hbk' := unhide HBR _ _ _ _ (unhide QB) (unhide QR) (unhide HF1)
              obtain ⟨yfn, ytmps, yas, ybd, hy, hR⟩ := unhide HY _ _ hyr hbk'
              simp only [YA.enc] at hy
              have HRR := hide hR
              clear hyr hR hbk'
              refine (wpIn_wide (n := n + 1)).1 ?_
              gi_wp2
              refine (unhide HRR).mono ?_
              rintro e W3 ⟨rfl, ⟨hj3, hr3⟩, hb3⟩
              have HJ3 := hide hj3
              have HR3 := hide hr3
              have HB3 := hide hb3
              clear hj3 hr3 hb3 hy
              gi_wp2
              go_wp2
              go_roundg (gk - 1)
              case rel => exact ⟨ps ++ [(x, .slice fa fl fc)], a + k, 0, unhide HJ3, unhide HR3, unhide HB3, by rw [List.length_append]; simp only [List.length_cons, List.length_nil]; omega, .inl ⟨rfl, by omega, by omega, lrel_next (unhide HST) (unhide HRC) (unhide HX5)⟩⟩
              case measure => omega
      · have hyb : ((y : Int) == 0) = false := beq_eq_false_iff_ne.2 (by omega)
        have QJ := hide qj
        have QR := hide qr
        have QB := hide qb
        have HS := hide hst
        clear qj qr qb hst hy
        go_wp2
        go_end0
        have e := unhide HS
        refine ⟨⟨_, rfl⟩, ⟨ps, unhide QJ, by rw [← e], by rw [← e]; exact unhide QR⟩, unhide QB⟩
end
end Go.Proofs.YtfmbebofllgmoaaGreatDoor
namespace Go.Proofs.YtfmbebofllgmoaaGreatDoor
open Go.RowKit
attribute [local go_sem ↓] Go.wp_at_zero Go.wp_at_succ
attribute [local go_sem] Oper.semAt_some

theorem newReader_any (s : ByteArray) (w : World) : Calls Tryz.prog 31 #[.string s] w fun e w' => e = .returned (.pointer (some ⟨w.heap.size, 0, none⟩)) ∧ w' = w.alloc (.cells #[.string s, .int .i64 0, .int .i64 0] 135) := by
  go_enter Tryz.func31, Tryz.ntmps31
  go_wp2
  go_ret
  exact ⟨rfl, rfl⟩
theorem inputsF_any (rb : Nat) (w : World) : Calls Tryz.prog 32 #[.pointer (some ⟨rb, 0, none⟩)] w fun e w' => e = .returned (.func (.func 57) #[] #[.pointer (some ⟨w.heap.size, 0, none⟩)]) ∧ w' = w.alloc (.cells #[.pointer (some ⟨rb, 0, none⟩)] 80) := by
  go_enter Tryz.func32, Tryz.ntmps32
  go_wp2
  go_ret
  exact ⟨rfl, rfl⟩
theorem ends_any {rb : Nat} {a y : Int} {w : World} (h1 : w.cell? ⟨rb, 1, none⟩ = some (.int .i64 a)) (h2 : w.cell? ⟨rb, 2, none⟩ = some (.int .i64 y)) : Calls Tryz.prog 33 #[.pointer (some ⟨rb, 0, none⟩)] w fun e w' => e = .returned (.tuple #[.int .i64 a, .int .i64 y]) ∧ w' = w.drew := by
  go_enter Tryz.func33, Tryz.ntmps33
  go_wp2
  go_region
  go_wp2
  refine bodyPost_ret (v := .tuple #[.int .i64 a, .int .i64 y]) (by simp [results, Tryz.results33, go_sem]) rfl ⟨rfl, rfl⟩

section
variable {w0 W : World} {ib vb rb l : Nat} {s : ByteArray} {ps : List (Inp × Value)} {r o : Loop}
theorem RdJ.noRec (h : RdJ w0 ib vb rb W ps) (hl : W.heap[l]? = some (.loop r)) (hz : w0.heap.size ≤ l) : RdJ w0 ib vb rb (W.putObj l (.loop o)) ps := by
  refine h.block ⟨h.fr.os, h.fr.tape, h.fr.output, by simpa using h.fr.size, fun k hk hn => (World.putObj_heap_other (by omega)).trans (h.fr.same k hk hn), fun _ _ h => h⟩ (fun q _ _ _ _ ⟨c, e, hc⟩ => World.putObj_heap_other (fun e' => ?_))
  subst e'
  rw [hl] at hc; cases hc
theorem RdAt.noRec {a y : Int} (h : RdAt W vb rb s a y) (hl : W.heap[l]? = some (.loop r)) : RdAt (W.putObj l (.loop o)) vb rb s a y := by
  refine h.block (World.putObj_heap_other (fun e => ?_)) (World.putObj_heap_other (fun e => ?_))
  · have := h.v; rw [e, hl] at this; cases this
  · have := h.r; rw [e, hl] at this; cases this
theorem YR.noRec {y : YA} (h : YR w0 ib vb rb s y W) (hl : W.heap[l]? = some (.loop r)) (hz : w0.heap.size ≤ l) : YR w0 ib vb rb s y (W.putObj l (.loop o)) := by
  have hi : ib ≠ l := fun e => by obtain ⟨v, h1, _⟩ := h.j.box; rw [e, hl] at h1; cases h1
  refine ⟨h.j.noRec hl hz, h.r.noRec hl, ownsRow_of_block h.f (fun q hq => World.putObj_heap_other (fun e => ?_)), fun q hq => ?_, h.m⟩
  · obtain ⟨c, hc⟩ := row_cells h.f hq; rw [e, hl] at hc; cases hc
  · obtain ⟨n1, n2, n3, n4⟩ := h.n q hq
    exact ⟨n1, n2, n3, fun v hv => n4 v (by rw [World.putObj_heap_other hi] at hv; exact hv)⟩
end
theorem row_shape {W : World} {B e size n : Nat} {v : Value} {xs : List Value} (h : W.ownsRow B e size v n xs) : ∃ a c, v = .slice a n c := by
  rcases h.2 with ⟨h1, h0⟩ | ⟨g, cap, cur, hv, _⟩
  · exact ⟨none, 0, by rw [h0]; exact h1⟩
  · exact ⟨_, _, hv⟩
theorem YR.kept {w0 W W' : World} {ib vb rb : Nat} {s : ByteArray} {y : YA} (h : YR w0 ib vb rb s y W) (hf : Fr (fun _ => False) w0 W' (fun _ => False)) (hb : ∀ q, q < W.heap.size → W'.heap[q]? = W.heap[q]?) : YR w0 ib vb rb s y W' := by
  obtain ⟨v, h1, _⟩ := h.j.box
  refine ⟨h.j.block hf (fun q _ hq _ _ _ => hb q hq), h.r.block (hb _ (Array.getElem?_eq_some_iff.1 h.r.v).1) (hb _ (Array.getElem?_eq_some_iff.1 h.r.r).1), ownsRow_of_block h.f (fun q hq => hb q (World.ownsRow.lt h.f q hq).2), fun q hq => ?_, h.m⟩
  obtain ⟨n1, n2, n3, n4⟩ := h.n q hq
  exact ⟨n1, n2, n3, fun v hv => n4 v (by rw [hb _ (Array.getElem?_eq_some_iff.1 h1).1] at hv; exact hv)⟩
/-- Read's own frame in a round. -/
def tmR (s : ByteArray) (n : Nat) (p : Value) (y : YA) : Array Value := #[.string s, undef, .slice none 0 0, .int .i64 0, .int .i64 0, .pointer (some ⟨n, 0, none⟩), .pointer (some ⟨n + 1, 0, none⟩), p, undef, undef, .string s, .pointer (some ⟨n + 1, 0, none⟩), .pointer (some ⟨n + 1, 0, none⟩), .func (.func 57) #[] #[.pointer (some ⟨n + 1 + 1, 0, none⟩)],
  .agg #[.int .i64 y.x.1, .int .i64 y.x.2.1, .int .i64 y.x.2.2.1, .slice y.fa y.fl y.fc], undef, undef, undef, undef, undef, undef, undef, undef, undef, undef, undef, undef]
/-- Behind the assignment of a round's input. -/
def RdM (w0 : World) (s : ByteArray) (y : YA) (b : Act) (W : World) : Prop :=
  YR w0 w0.heap.size (w0.heap.size + 1 + 1) (w0.heap.size + 1) s y W ∧ ∃ nb, W.heap[nb]? = some (.cells #[.int .i64 y.x.1, .int .i64 y.x.2.1, .int .i64 y.x.2.2.1, .slice y.fa y.fl y.fc] 49) ∧ b = ⟨tmR s w0.heap.size (.pointer (some ⟨nb, 0, none⟩)) y, []⟩
theorem elemIn : Elem 44 49 4 48 := elem_of _ _ _ _ (.agg #[.int .i64 0, .int .i64 0, .int .i64 0, .slice none 0 0]) Tryz.underlying44 (by kernel_rfl) rfl
theorem cells_new4 (W : World) (a b c d : Value) (e : Nat) : ∀ j u, [a, b, c, d][j]? = some u → (W.alloc (.cells #[a, b, c, d] e)).cell? (Addr.add ⟨W.heap.size, 0, none⟩ j) = some u := by
  intro j u hj
  have h0 := heap_alloc_new W (.cells #[a, b, c, d] e)
  rcases j with _ | _ | _ | _ | j
  · injection hj with hj; subst hj; exact cell_of_row _ _ 0 _ e (0, 0) h0
  · injection hj with hj; subst hj; exact cell_of_row _ _ 1 _ e (0, 0) h0
  · injection hj with hj; subst hj; exact cell_of_row _ _ 2 _ e (0, 0) h0
  · injection hj with hj; subst hj; exact cell_of_row _ _ 3 _ e (0, 0) h0
  · cases hj
theorem small1 {n : Nat} (h : n ≤ 1000000000) : n + 1 ≤ maxLen := Nat.le_trans (Nat.succ_le_succ h) (by decide)
theorem small48 {n : Nat} (h : n ≤ 1000000000) : (n + 1) * 48 ≤ 140737488355328 := by omega
theorem rbox_kept {w0 W w1 : World} {ib vb rb : Nat} {s : ByteArray} {y : YA} {v : Value} {o : Obj} (h : YR w0 ib vb rb s y W) (hv : W.heap[ib]? = some (.cells #[v] 44)) (hg : (W.alloc o).grownBy w1 v.ownBlock) : w1.cell? ⟨ib, 0, none⟩ = some v ∧ w1.frozen? ⟨ib, 0, none⟩ = false := by
  have hlt := (Array.getElem?_eq_some_iff.1 hv).1
  obtain ⟨v', h1, h2, _⟩ := h.j.box
  rw [hv] at h1
  have e : v' = v := by cases h1; rfl
  subst e
  have hb : w1.heap[ib]? = some (.cells #[v'] 44) := (hg.block ib (by simp; omega) (fun e => by obtain ⟨c, hc⟩ := row_cells h2.row e.symm; rw [hv] at hc; cases hc)).trans ((Below.heap_alloc _ _ _ hlt).trans hv)
  exact ⟨cell_of_row _ _ 0 _ 44 (0, 0) hb, frozen_rowE hb 0⟩
set_option maxHeartbeats 1000000 in
set_option maxRecDepth 20000 in
theorem read_any (s : ByteArray) (hs : s.size ≤ 1000000000) (w : World) : Calls Tryz.prog 16 #[.string s] w fun e w' => ∃ a n c ps, e = .returned (.tuple #[.slice a n c, .int .i64 (readL (bs s)).2.1, .int .i64 (readL (bs s)).2.2]) ∧ InsAt w' w.heap.size (.slice a n c) ps ∧ ps.map (·.1) = (readL (bs s)).1 ∧ Fr (fun _ => False) w w' (fun _ => False) := by
  refine (callsIn_wide (n := 3)).1 ?_
  refine callsIn_of_wp_marks Tryz.func16 rfl trivial ?_ rfl
  simp only [Tryz.ntmps16, List.size_toArray, List.length_cons, List.length_nil, Nat.reduceAdd, Nat.reduceSub, Array.replicate_succ, Array.replicate_zero, List.push_toArray, List.append_toArray, List.nil_append, List.cons_append]
  refine wpIn_wide.2 ?_
  go_wp2_with (first | (go_at_call 31; refine (newReader_any _ _).mono ?_; rintro e w' ⟨rfl, rfl⟩) | (go_at_call 32; refine (inputsF_any _ _).mono ?_; rintro e w' ⟨rfl, rfl⟩))
  obtain ⟨W0, hW0⟩ : ∃ W0, ((w.alloc (.cells #[.slice none 0 0] 44)).alloc (.cells #[.string s, .int .i64 0, .int .i64 0] 135)).alloc (.cells #[.pointer (some ⟨w.heap.size + 1, 0, none⟩)] 80) = W0 := ⟨_, rfl⟩
  obtain ⟨t0, t1, t2⟩ := three w.heap (.cells #[.slice none 0 0] 44) (.cells #[.string s, .int .i64 0, .int .i64 0] 135) (.cells #[.pointer (some ⟨w.heap.size + 1, 0, none⟩)] 80)
  change (((w.alloc _).alloc _).alloc _).heap[_]? = _ at t0 t1 t2
  rw [hW0] at t0 t1 t2 ⊢
  have hz0 : W0.heap.size = w.heap.size + 3 := by rw [← hW0]; simp
  have hf0 : Fr (fun _ => False) w W0 (fun _ => False) := by rw [← hW0]; exact (((Fr.refl _ w).alloc _).alloc _).alloc _
  have hr0 : RdAt W0 (w.heap.size + 1 + 1) (w.heap.size + 1) s 0 0 := ⟨t2, t1⟩
  have hj0 : RdJ w w.heap.size (w.heap.size + 1 + 1) (w.heap.size + 1) W0 [] := ⟨hf0, ⟨.slice none 0 0, t0, InsAt.nil _ _, inS_nil _, inS_nil _, inS_nil _⟩, ⟨by omega, by omega, by omega⟩, ⟨by omega, by omega⟩⟩
  have hlz : w.heap.size ≤ W0.heap.size + 1 := by omega
  have HZ0 := hide hz0
  have HF0 := hide hf0
  have HR0 := hide hr0
  have HJ0 := hide hj0
  clear hW0 t0 t1 t2 hz0 hf0 hr0 hj0
  refine wpIn_wide.1 (wp_range (n := 3) (gf := 57) (lb := #[.pointer (some ⟨w.heap.size + 1 + 1, 0, none⟩)]) rfl (enters_of Tryz.func57 (by kernel_rfl) rfl) YA.enc (fun _ => rfl) (YR w w.heap.size (w.heap.size + 1 + 1) (w.heap.size + 1) s) (YE w w.heap.size (w.heap.size + 1 + 1) (w.heap.size + 1) s) (RdM w s)
    (fun W => ∃ ps, RdJ w w.heap.size (w.heap.size + 1 + 1) (w.heap.size + 1) W ps ∧ ps.map (·.1) = (readL (bs s)).1 ∧ RdAt W (w.heap.size + 1 + 1) (w.heap.size + 1) s (readL (bs s)).2.1 (readL (bs s)).2.2) ?nR' ?nRm ?nS ?assign ?body ?iter ?done)
  case nR' => exact fun y W r o h hl => ⟨h.1.noRec hl hlz, h.2.noRec hl⟩
  case nRm =>
    rintro y b W r o ⟨h, nb, h1, h2⟩ hl
    refine ⟨h.noRec hl hlz, nb, (World.putObj_heap_other (fun e => ?_)).trans h1, h2⟩
    rw [e, hl] at h1; cases h1
  case nS =>
    rintro W r o ⟨ps, h1, h2, h3⟩ hl
    exact ⟨ps, h1.noRec hl hlz, h2, h3.noRec hl⟩
  case assign =>
    intro y W r K hyr hbk hK
    obtain ⟨ps, x, fa, fl, fc, pos, why⟩ := y
    simp only [YA.enc]
    have HYR := hide hyr
    have HBK := hide hbk
    have HK := hide hK
    clear hyr hbk hK
    gi_wp2
    have hyr := unhide HYR
    have hbk := unhide HBK
    have hlt1 := (Array.getElem?_eq_some_iff.1 hbk.1).1
    have hlt2 := (Array.getElem?_eq_some_iff.1 hbk.2).1
    have e1 : ∀ q, q < W.heap.size → (W.alloc (.cells #[.int .i64 x.1, .int .i64 x.2.1, .int .i64 x.2.2.1, .slice fa fl fc] 49)).heap[q]? = W.heap[q]? := fun q hq => Below.heap_alloc _ _ _ hq
    refine unhide HK _ _ ⟨(e1 _ hlt1).trans hbk.1, (e1 _ hlt2).trans hbk.2⟩ ⟨?_, W.heap.size, heap_alloc_new _ _, rfl⟩
    exact hyr.kept (hyr.j.fr.alloc _) e1
  case body =>
    rintro ⟨ps, x, fa, fl, fc, pos, why⟩ b W r ⟨hyr, nb, hnb, rfl⟩ hbk
    obtain ⟨v, hv, hins, hv1, hv2, hv3⟩ := hyr.j.box
    obtain ⟨va, vc, rfl⟩ := row_shape hins.row
    have c0 : W.cell? ⟨w.heap.size, 0, none⟩ = some (.slice va ps.length vc) := cell_of_row _ _ 0 _ 44 (0, 0) hv
    have z0 := frozen_rowE hv 0
    have d0 : W.cell? ⟨nb, 0, none⟩ = some (.int .i64 x.1) := cell_of_row _ _ 0 _ 49 (0, 0) hnb
    have d1 : W.cell? ⟨nb, 1, none⟩ = some (.int .i64 x.2.1) := cell_of_row _ _ 1 _ 49 (0, 0) hnb
    have d2 : W.cell? ⟨nb, 2, none⟩ = some (.int .i64 x.2.2.1) := cell_of_row _ _ 2 _ 49 (0, 0) hnb
    have d3 : W.cell? ⟨nb, 3, none⟩ = some (.slice fa fl fc) := cell_of_row _ _ 3 _ 49 (0, 0) hnb
    change Code.wpIn (Fence.wide.inRound (W0.heap.size + 1)) 3 Tryz.prog _ _ ⟨#[.string s, undef, .slice none 0 0, .int .i64 0, .int .i64 0, .pointer (some ⟨w.heap.size, 0, none⟩), .pointer (some ⟨w.heap.size + 1, 0, none⟩), (.pointer (some ⟨nb, 0, none⟩)), undef, undef, .string s, .pointer (some ⟨w.heap.size + 1, 0, none⟩), .pointer (some ⟨w.heap.size + 1, 0, none⟩), .func (.func 57) #[] #[.pointer (some ⟨w.heap.size + 1 + 1, 0, none⟩)], .agg #[.int .i64 x.1, .int .i64 x.2.1, .int .i64 x.2.2.1, .slice fa fl fc], undef, undef, undef, undef, undef, undef, undef, undef, undef, undef, undef, undef], []⟩ W
    have HYR := hide hyr
    have HBK := hide hbk
    have HI := hide hins
    have HV := hide hv
    clear hyr hbk hins hnb hv
    obtain ⟨ei, ez, hei, hez, hesz, heby, hezc⟩ := elemIn.i
    have hpl : ps.length ≤ 1000000000 := (unhide HYR).m
    have hbl : w.heap.size ≤ W.heap.size := (unhide HYR).j.fr.size
    gi_wp2_with (gi_at_builtin; refine wpListIn_append_own_at _ rfl _ _ 44 rfl w.heap.size 49 ei ez 4 48 Tryz.underlying44 hei hez hesz heby hezc (by decide) (.slice va ps.length vc) ps.length (flatP ps) rfl ((unhide HI).row.alloc _) ⟨W.heap.size, 0, none⟩ 1 1 [.int .i64 x.1, .int .i64 x.2.1, .int .i64 x.2.2.1, .slice fa fl fc] rfl rfl (cells_new4 _ _ _ _ _ _) (by simp [Value.oneCell']) (small1 hpl) (small48 hpl) (by simp; omega) ?_; intro v' w1 hown' hgrow _ hat; obtain ⟨va', vc', rfl⟩ := row_shape hown'; obtain ⟨k1, k2⟩ := rbox_kept (unhide HYR) (unhide HV) hgrow)
    have hyr := unhide HYR
    have hbk := unhide HBK
    have hins := unhide HI
    obtain ⟨hg1, hg2⟩ := hins.grow x (.slice fa fl fc) hyr.f (fun q hq => (hyr.n q hq).2.2.2 _ (unhide HV)) hown' hgrow hat
    have same : ∀ q, q < W.heap.size → ¬ own (.slice va ps.length vc) q → w1.heap[q]? = W.heap[q]? := fun q hq hn => (hgrow.block q (by simp; omega) (fun e => hn e.symm)).trans (Below.heap_alloc _ _ _ hq)
    have nocell : ∀ q o, W.heap[q]? = some o → (∀ c, o ≠ .cells c 49 (0, 0)) → ¬ own (.slice va ps.length vc) q := fun q o h1 h2 h3 => by obtain ⟨c, hc⟩ := row_cells hins.row h3; rw [h1] at hc; injection hc with hc; exact h2 c hc
    have lt : ∀ {q o}, W.heap[q]? = some o → q < W.heap.size := fun h => (Array.getElem?_eq_some_iff.1 h).1
    have hib := unhide HV
    have ob : w1.heap[w.heap.size]? = some (.cells #[.slice va ps.length vc] 44) := (same _ (lt hib) (nocell _ _ hib (fun c e => by cases e))).trans hib
    have oth : ∀ q o, W.heap[q]? = some o → (∀ c, o ≠ .cells c 49 (0, 0)) → q ≠ w.heap.size → (w1.setCell ⟨w.heap.size, 0, none⟩ (.slice va' (ps.length + 1) vc')).heap[q]? = some o := fun q o h1 h2 h3 => (Below.heap_setCell _ _ _ _ h3).trans ((same q (lt h1) (nocell _ _ h1 h2)).trans h1)
    have inN : ∀ q, inS (.slice va' (ps.length + 1) vc') (ps ++ [(x, .slice fa fl fc)]) q → q < W.heap.size → ¬ inS (.slice va ps.length vc) ps q → ¬ own (.slice fa fl fc) q → False := fun q hq h1 h2 h3 => by rcases hg2 q hq with h | h | h; exact h2 h; exact h3 h; omega
    refine ⟨⟨oth _ _ hbk.1 (fun c e => by cases e) (fun e => ?_), oth _ _ hbk.2 (fun c e => by cases e) (fun e => ?_)⟩, ⟨?_, ⟨_, set3 ob 0 _, ?_, ?_, ?_, ?_⟩, hyr.j.ge, hyr.j.ne⟩, ⟨oth _ _ hyr.r.v (fun c e => by cases e) (Ne.symm hyr.j.ne.1), oth _ _ hyr.r.r (fun c e => by cases e) (Ne.symm hyr.j.ne.2)⟩⟩
    · have := hbk.1; rw [e, hib] at this; cases this
    · have := hbk.2; rw [e, hib] at this; cases this
    · exact ((hyr.j.fr.alloc _).grown hgrow (fun k hk => (World.ownsRow.lt hins.row k hk).1)).setCell _ _ (.inr (Nat.le_refl _))
    · refine hg1.block (fun q hq => Below.heap_setCell _ _ _ _ (fun e => ?_))
      exact inN q hq (e ▸ lt hib) (e ▸ hv1) (fun h => (hyr.n q h).1 e)
    · exact fun hq => inN _ hq (lt hib) hv1 (fun h => (hyr.n _ h).1 rfl)
    · exact fun hq => inN _ hq (lt hyr.r.v) hv2 (fun h => (hyr.n _ h).2.1 rfl)
    · exact fun hq => inN _ hq (lt hyr.r.r) hv3 (fun h => (hyr.n _ h).2.2.1 rfl)
  case iter =>
    rintro Bk W1 hB1 hB2 hY hB ⟨o1, o2, rfl⟩
    refine (callsIn_wide (n := 3)).2 ?_
    have e1 : ∀ q, q < W0.heap.size → ((W0.alloc o1).alloc o2).heap[q]? = W0.heap[q]? := fun q hq => (Below.heap_alloc _ _ _ (by simp; omega)).trans (Below.heap_alloc _ _ _ hq)
    refine (inputs_any (n := 3) hs (fun W hW => ?_) hY _ 0 0 ((unhide HR0).block (e1 _ (by have := unhide HZ0; omega)) (e1 _ (by have := unhide HZ0; omega))) ((unhide HJ0).block (((unhide HF0).alloc o1).alloc o2) (fun q _ hq _ _ _ => e1 q hq)) hB)
    obtain ⟨r, hr⟩ := hB1 W hW
    have hz0 := unhide HZ0
    exact ⟨W0.heap.size, r, by omega, by omega, by omega, hr, fun W' h1 h2 => hB2 W W' hW h1 h2⟩
  case done =>
    rintro W ⟨ps, h1, h2, h3⟩ hD
    obtain ⟨v, hv, hins, hv1, hv2, hv3⟩ := h1.box
    obtain ⟨va, vc, rfl⟩ := row_shape hins.row
    have c0 : W.cell? ⟨w.heap.size, 0, none⟩ = some (.slice va ps.length vc) := cell_of_row _ _ 0 _ 44 (0, 0) hv
    have H3 := hide h3
    have H1 := hide h1
    have HI := hide hins
    have HD := hide hD
    clear h1 h3 hins hD hv
    go_wp2_with (go_at_call 33; refine (ends_any (unhide H3).cells.2.2.1 (unhide H3).cells.2.2.2.1).mono ?_; rintro e w' ⟨rfl, rfl⟩)
    have hD : W.drew.heap[W0.heap.size]? = some (.deferred (some [])) := unhide HD
    have hins := unhide HI
    have h1 := unhide H1
    have hz0 := unhide HZ0
    refine ⟨by simp, .inl ⟨_, _, rfl, run_takeDeferred hD, ?_⟩⟩
    refine ⟨.tuple #[.slice va ps.length vc, .int .i64 (readL (bs s)).2.1, .int .i64 (readL (bs s)).2.2], by simp [results, Tryz.results16, go_sem], va, ps.length, vc, ps, rfl, ?_, h2, ?_⟩
    · refine hins.block (fun q hq => World.putObj_heap_other (fun e => ?_))
      obtain ⟨c, t, hc⟩ := hins.isCells hq
      have : W.heap[W0.heap.size]? = _ := unhide HD
      rw [e, this] at hc; cases hc
    · have f1 := h1.fr.drew
      exact ⟨f1.os, f1.tape, f1.output, by simpa using f1.size, fun k hk hn => (World.putObj_heap_other (by omega)).trans (f1.same k hk hn), fun _ _ h => h⟩

end Go.Proofs.YtfmbebofllgmoaaGreatDoor
namespace Go.Proofs.YtfmbebofllgmoaaGreatDoor
open Go.RowKit Go.Conc

theorem mkP (n : Nat) (hn : n ≤ 2000000) (w : World) : (Instr.makeChan 167 (.int .i64 n)).run Tryz.prog w = .ok (.chan (some w.heap.size)) (w.alloc (.chan n #[] false 0 0 false)) := by
  have h : (Tryz.prog.info? 49).map (·.bytes) = some 48 := by kernel_rfl
  obtain ⟨i, hi, hb⟩ := Option.map_eq_some_iff.1 h
  exact run_makeChan (P := Tryz.prog) (w := w) Tryz.underlying167 hi .i64 n (by omega) (by rw [hb]; omega)
/-- The channel when i have been sent. -/
structure FillP (w : World) (n : Nat) (ev : Nat → Value) (i : Nat) (W : World) : Prop where
  fr : Fr (fun _ => False) w W (fun _ => False)
  ch : W.heap[w.heap.size]? = some (.chan n ((List.range i).map ev).toArray false i 0 false)

set_option maxRecDepth 20000 in
theorem filledP_any {w : World} (a0 : Option Addr) (n c : Nat) (k0 k1 k2 : Nat → Int) (vf : Nat → Value) (hn : n ≤ 2000000) (hc : ∀ i, i < n → ∃ q, a0 = some ⟨q, 0, none⟩ ∧ q < w.heap.size ∧ w.cell? ⟨q, i * 4, none⟩ = some (.int .i64 (k0 i)) ∧ w.cell? ⟨q, i * 4 + 1, none⟩ = some (.int .i64 (k1 i)) ∧ w.cell? ⟨q, i * 4 + 2, none⟩ = some (.int .i64 (k2 i)) ∧ w.cell? ⟨q, i * 4 + 3, none⟩ = some (vf i)) (hv : ∀ i, ∃ a l c, vf i = .slice a l c) :
    Calls Tryz.prog 52 #[.slice a0 n c] w fun e w' => e = .returned (.chan (some w.heap.size)) ∧ Fr (fun _ => False) w w' (fun _ => False) ∧ w'.heap[w.heap.size]? = some (.chan n ((List.range n).map (fun i => .agg #[.int .i64 (k0 i), .int .i64 (k1 i), .int .i64 (k2 i), vf i])).toArray true n 0 false) := by
  generalize hev : (fun i => Value.agg #[.int .i64 (k0 i), .int .i64 (k1 i), .int .i64 (k2 i), vf i]) = ev
  refine calls_of_rn Tryz.func52 rfl ?_
  rw [Tryz.ntmps52, enter_tmps (.slice a0 n c) 20 19 [.slice a0 n c, undef, undef, undef, undef, undef, undef, undef, undef, undef, undef, undef, undef, undef, undef, undef, undef, undef, undef, undef] rfl rfl]
  have hmk := mkP n hn w
  refine Rn.seq (Rn.go ?_)
  go_wp2
  refine exNo_normal (Rn.seq (Rn.go ?_))
  go_wp2
  refine exNo_normal (Rn.seq (Rn.seq (Rn.go ?_)))
  go_wp2
  refine exNo_normal (Rn.block (Rn.loop ?_))
  refine Rn.iter (fun m a w' => ∃ i u5 u12 u13 u14 u15 u16 u17, i + m = n ∧ a = ⟨#[.slice a0 n c, undef, .chan none, .chan (some w.heap.size), undef, u5, .slice a0 n c, .int .i64 n, .chan (some w.heap.size), .slice a0 n c, .int .i64 n, .int .i64 (i : Nat), u12, u13, u14, u15, u16, u17, undef, undef], []⟩ ∧ FillP w n ev i w') ?_ n _ _
    ⟨0, _, _, _, _, _, _, _, by omega, rfl, ⟨(Fr.refl _ w).alloc _, heap_alloc_new _ _⟩⟩
  rintro m _ W ⟨i, u5, u12, u13, u14, u15, u16, u17, hi, rfl, hW⟩ ih
  refine Rn.seq (Rn.go ?_)
  go_wp2
  refine exNo_normal (Rn.seq ?_)
  by_cases hlt : i < n
  · have hd : decide (i < n) = true := by simpa using hlt
    simp only [hd]
    refine Rn.cond (t := true) rfl ?_
    simp only [if_true]
    refine Rn.go ?_
    go_wp2
    refine exNo_normal (Rn.seq (Rn.block (Rn.seq (Rn.go ?_))))
    obtain ⟨q, rfl, hq, h0, h1, h2, h3⟩ := hc i hlt
    obtain ⟨fa, fl, fc, hvf⟩ := hv i
    rw [hvf] at h3
    have hc0 := (hW.fr.cell q (i * 4) hq (fun h => h)).trans h0
    have hc1 := (hW.fr.cell q (i * 4 + 1) hq (fun h => h)).trans h1
    have hc2 := (hW.fr.cell q (i * 4 + 2) hq (fun h => h)).trans h2
    have hc3 := (hW.fr.cell q (i * 4 + 3) hq (fun h => h)).trans h3
    have HW := hide hW
    clear hW
    go_wp2
    generalize hW2 : W.alloc (.cells #[.int .i64 (k0 i), .int .i64 (k1 i), .int .i64 (k2 i), .slice fa fl fc] 49) = W2
    have hW := unhide HW
    have h5 : W2.heap[W.heap.size]? = some (.cells #[.int .i64 (k0 i), .int .i64 (k1 i), .int .i64 (k2 i), .slice fa fl fc] 49) := by rw [← hW2]; exact heap_alloc_new _ _
    have hch : W2.heap[w.heap.size]? = some (.chan n ((List.range i).map ev).toArray false i 0 false) := by rw [← hW2]; exact (Below.heap_alloc _ _ _ (Array.getElem?_eq_some_iff.1 hW.ch).1).trans hW.ch
    have hf2 : Fr (fun _ => False) w W2 (fun _ => False) := by rw [← hW2]; exact hW.fr.alloc _
    have d0 := cell_of_row _ _ 0 _ 49 (0, 0) h5
    have d1 := cell_of_row _ _ 1 _ 49 (0, 0) h5
    have d2 := cell_of_row _ _ 2 _ 49 (0, 0) h5
    have d3 := cell_of_row _ _ 3 _ 49 (0, 0) h5
    refine exNo_normal (Rn.region' [0, 1, 2] rfl ?_)
    refine Rn.op rfl rfl rfl ?_
    refine Rn.op (v := ev i) (w' := W2) rfl rfl ?_ ?_
    · rw [← hev]; simp [execOp, Act.eval, Act.put, go_sem, d0, d1, d2, d3, hvf]
    refine Rn.send (c := w.heap.size) (cap := n) (buf := ((List.range i).map ev).toArray) (s := i) (r := 0) (tm := false) (v := ev i) (z := .tuple #[]) (by decide) rfl rfl (by simp [execOp, scase, Act.eval, Act.put]) hch (by simpa using hlt) ?_
    have hn2 : FillP w n ev (i + 1) (W2.setChan w.heap.size n (((List.range i).map ev).toArray.push (ev i)) false (i + 1) 0 false) := by
      have hlt2 := (Array.getElem?_eq_some_iff.1 hch).1
      refine ⟨⟨hf2.os, hf2.tape, hf2.output, by rw [size_setChan]; exact hf2.size, fun k hk hn => ?_, fun _ _ h => h⟩, ?_⟩
      · simp only [World.setChan]; rw [Array.getElem?_setIfInBounds_ne (by omega)]; exact hf2.same k hk hn
      · rw [heap_setChan _ _ _ _ _ _ _ _ hlt2, List.range_succ, List.map_append]; simp
    generalize W2.setChan w.heap.size n (((List.range i).map ev).toArray.push (ev i)) false (i + 1) 0 false = W3 at hn2 ⊢
    refine Rn.regionEnd (Rn.inBlock (Rn.go ?_))
    simp only [Act.put]
    have hw1 : IntKind.i64.wrap ((i : Int) + 1) = ((i + 1 : Nat) : Int) := by rw [IntKind.wrap_i64]; omega
    clear hch h5 d0 d1 d2 d3 hf2 hW2
    go_wp2
    refine exNo_normal (ih (m - 1) _ _ (by omega) ⟨i + 1, _, _, _, _, _, _, _, by omega, rfl, hn2⟩)
  · have hd : decide (i < n) = false := by simpa using hlt
    have hin : i = n := by omega
    subst hin
    simp only [hd]
    refine Rn.cond (t := false) rfl ?_
    simp only [if_false, Bool.false_eq_true]
    refine Rn.exit rfl (Rn.seq (Rn.go ?_))
    have hcl := fun ats ty => run_close_open (P := Tryz.prog) (w := W) ats ty hW.ch
    have hlt2 := (Array.getElem?_eq_some_iff.1 hW.ch).1
    have HW := hide hW
    clear hW
    go_wp2
    refine exNo_normal (Rn.seq (Rn.go ?_))
    go_wp2
    have hf2 := (unhide HW).fr
    refine exNo_normal (Rn.ret rfl rfl Tryz.func52 (by simp [results, Tryz.results52, go_sem]) ⟨rfl, ⟨hf2.os, hf2.tape, hf2.output, by simpa using hf2.size, fun k hk hn => ?_, fun _ _ h => h⟩, ?_⟩)
    · show (W.heap.setIfInBounds _ _)[k]? = _
      rw [Array.getElem?_setIfInBounds_ne (by omega)]; exact hf2.same k hk hn
    · show (W.heap.setIfInBounds _ _)[w.heap.size]? = _
      rw [Array.getElem?_setIfInBounds_self_of_lt hlt2]
end Go.Proofs.YtfmbebofllgmoaaGreatDoor
namespace Go.Proofs.YtfmbebofllgmoaaGreatDoor
open Go.RowKit Go.Conc
attribute [local go_sem ↓] Go.wp_at_zero Go.wp_at_succ

theorem isEnd_any (k o n e : Int) (a : Option Addr) (l c : Nat) (w : World) : Calls Tryz.prog 56 #[.agg #[.int .i64 k, .int .i64 o, .int .i64 n, .slice a l c], .int .i64 e] w fun r w' => r = .returned (.bool (decide (k = 5 ∧ n = e))) ∧ Fr (fun _ => False) w w' (fun _ => False) := by
  by_cases hk : k = 5
  · subst hk
    by_cases hn : n = e
    · subst hn
      go_enter Tryz.func56, Tryz.ntmps56
      go_wp2
      go_ret
      exact ⟨by simp, (Fr.refl _ w).alloc _⟩
    · have hnb : (n == e) = false := by simpa using hn
      go_enter Tryz.func56, Tryz.ntmps56
      go_wp2
      go_ret
      exact ⟨by simp [hn], (Fr.refl _ w).alloc _⟩
  · have hkb : (k == 5) = false := by simpa using hk
    go_enter Tryz.func56, Tryz.ntmps56
    go_wp2
    go_ret
    exact ⟨by simp [hk], (Fr.refl _ w).alloc _⟩

/-- One operation that yields nothing. -/
theorem Rn.skip {P : Program} {b : Frame} {R : Ending → World → Prop} {k : List Item} {a : Act} {w : World} {ops : Array Oper} {i : Nat} {rest : List Nat} {o : Oper} {w' : World} (ho : ops[i]? = some o) (hw : Region.wanted o (yielded ops a.tmps) = true)
    (hr : (execOp a.eval o).run P w = .ok .skip w') (h : Rn P b R (.inRegion ops rest :: k) (a.put o.dst undef) w') : Rn P b R (.inRegion ops (i :: rest) :: k) a w :=
  .step (fun cs => by
    have hg := stepG_op (P := P) (b := b) (k := k) (cs := cs) (w := w) (rest := rest) ho hw
    have hfin : (b.at a (.inRegion ops (i :: rest) :: k)).finish undef = b.at (a.put o.dst undef) (.inRegion ops rest :: k) := by rw [Frame.finish_at, ho]; rfl
    refine step_lone_go ?_
    rw [hg, ← hfin]; simp [stepG.apply, hr]) h
/-- An input as a value. -/
def aggP (p : Inp × Value) : Value := .agg #[.int .i64 p.1.1, .int .i64 p.1.2.1, .int .i64 p.1.2.2.1, p.2]
theorem u39 (x y z : Value) : (#[x, y, z] ++ Array.replicate (39 - (#[x, y, z] : Array Value).size) undef) = (x :: y :: z :: List.replicate 36 undef).toArray := by simp
abbrev z49 : Obj := .cells #[.int .i64 0, .int .i64 0, .int .i64 0, .slice none 0 0] 49

set_option maxRecDepth 100000 in
set_option maxHeartbeats 2000000 in
theorem hearR_nil {w : World} {rb ch : Nat} (hs : w.cell? ⟨rb, 0, none⟩ = some (.chan (some ch))) (hsb : rb < w.heap.size) (hne : rb ≠ ch) (hc : ChanAt w ch []) (k o : Int) {R : Ending → World → Prop}
    (hR : ∀ w', Fr (fun k => k = ch) w w' (fun k => k = ch) → ChanAt w' ch [] → R (.returned (.tuple #[.agg #[.int .i64 0, .int .i64 0, .int .i64 0, .slice none 0 0], .int .i64 5])) w') :
    Calls Tryz.prog 180 #[.pointer (some ⟨rb, 0, none⟩), .int .i64 k, .int .i64 o] w R := by
  have HR := hide hR
  clear hR
  refine calls_of_rn Tryz.func180 rfl ?_
  rw [Tryz.ntmps180, u39]
  simp only [List.replicate]
  have hf1 := (Fr.refl (fun k => k = ch) w).alloc z49
  have hs1 : (w.alloc z49).cell? ⟨rb, 0, none⟩ = some (.chan (some ch)) := (hf1.cell rb 0 hsb hne).trans hs
  have hc1 : ChanAt (w.alloc z49) ch [] := hc.block (Below.heap_alloc _ _ _ hc.lt)
  have hrow := heap_alloc_new w z49
  have hw1 : w.heap.size ≠ ch := by have := hc.lt; omega
  have hz1 : w.heap.size < (w.alloc z49).heap.size := by simp
  have HF1 := hide hf1
  have HROW := hide hrow
  have HC1 := hide hc1
  clear hf1 hrow hc1 hc hs
  refine Rn.seq (Rn.go ?_)
  go_wp2
  generalize hW : w.alloc z49 = W1 at *
  clear hW
  refine exNo_normal (Rn.seq (Rn.region' [0, 1, 2, 3, 4, 5, 6, 7, 8, 9, 10] rfl ?_))
  refine Rn.op rfl rfl rfl ?_
  refine Rn.op rfl rfl rfl ?_
  refine Rn.op rfl rfl rfl ?_
  refine Rn.op (v := .chan (some ch)) (w' := W1) rfl rfl ?_ ?_
  · simp [execOp, Act.eval, Act.put, go_sem, hs1]
  refine Rn.take (c := ch) (z := .agg #[.int .i64 0, .int .i64 0, .int .i64 0, .slice none 0 0]) (vs := []) (by decide) rfl rfl ?_ (unhide HC1) ?_
  · simp [execOp, Act.eval, Act.put, go_sem, rcase]
  intro W2 f2 c2
  have C2 := hide c2
  have F2 := hide ((unhide HF1).trans f2)
  have HR2 := hide ((f2.same w.heap.size hz1 hw1).trans (unhide HROW))
  have hz2 := Nat.lt_of_lt_of_le hz1 f2.size
  clear c2 f2 HC1 HROW HF1 hs1
  simp only [Act.put]
  refine Rn.op (v := .tuple #[.agg #[.int .i64 0, .int .i64 0, .int .i64 0, .slice none 0 0], .bool false]) (w' := W2) rfl rfl (by simp [execOp, Act.eval, go_sem]) ?_
  simp only [Act.put]
  refine Rn.op (v := .agg #[.int .i64 0, .int .i64 0, .int .i64 0, .slice none 0 0]) (w' := W2) rfl rfl (by simp [execOp, Act.eval, go_sem]) ?_
  simp only [Act.put]
  refine Rn.op (v := .bool false) (w' := W2) rfl rfl (by simp [execOp, Act.eval, go_sem]) ?_
  simp only [Act.put]
  refine Rn.op (v := .pointer (some ⟨W2.heap.size, 0, none⟩)) (w' := W2.alloc z49) rfl rfl (by simp [execOp, go_sem]) ?_
  simp only [Act.put]
  refine Rn.skip (w' := W2.alloc (.cells #[.int .i64 0, .int .i64 0, .int .i64 0, .slice none 0 0] 49)) rfl rfl (by simp [execOp, Act.eval, go_sem]) ?_
  simp only [Act.put]
  refine Rn.op (v := .bool false) (w' := W2.alloc (.cells #[.int .i64 0, .int .i64 0, .int .i64 0, .slice none 0 0] 49)) rfl rfl (by simp [execOp, Act.eval, go_sem]) ?_
  simp only [Act.put]
  refine Rn.regionEnd ?_
  refine Rn.body rfl Tryz.func180 ?_
  have hrow := (Below.heap_alloc W2 z49 _ hz2).trans (unhide HR2)
  have hfa : Fr (fun _ => False) W2 (W2.alloc z49) (fun _ => False) := (Fr.refl _ _).alloc _
  generalize hW : W2.alloc z49 = W3 at *
  clear hW
  have hcell := fun j => cell_of_row W3 w.heap.size j _ 49 (0, 0) hrow
  have hfz := fun j => frozen_rowE hrow j
  have HFA := hide hfa
  clear hrow hfa
  go_wp2
  refine exRet_ret (bodyPost_ret (v := .tuple #[.agg #[.int .i64 0, .int .i64 0, .int .i64 0, .slice none 0 0], .int .i64 5]) (by simp [results, Tryz.results180, go_sem, hcell]) rfl ?_)
  exact unhide HR _ (outS (unhide F2) (unhide HFA) _ _ _ _) (outC (unhide F2) (unhide HFA) (unhide C2) hw1 _ _ _ _)
set_option maxRecDepth 100000 in
set_option maxHeartbeats 4000000 in
theorem hearR_cons {w : World} {rb ch : Nat} (hs : w.cell? ⟨rb, 0, none⟩ = some (.chan (some ch))) (hsb : rb < w.heap.size) (hne : rb ≠ ch) (k' o' n' : Int) (fa : Option Addr) (fl fc : Nat) (vs : List Value) (hc : ChanAt w ch (.agg #[.int .i64 k', .int .i64 o', .int .i64 n', .slice fa fl fc] :: vs)) (k o : Int) {R : Ending → World → Prop}
    (hR : ∀ w', Fr (fun k => k = ch) w w' (fun k => k = ch) → ChanAt w' ch vs → R (.returned (if k' = 5 ∧ n' = 5 then .tuple #[.agg #[.int .i64 0, .int .i64 0, .int .i64 0, .slice none 0 0], .int .i64 5] else if k' ≠ k ∨ o' ≠ o then .tuple #[.agg #[.int .i64 0, .int .i64 0, .int .i64 0, .slice none 0 0], .int .i64 6] else .tuple #[.agg #[.int .i64 k', .int .i64 o', .int .i64 n', .slice fa fl fc], .int .i64 0])) w') :
    Calls Tryz.prog 180 #[.pointer (some ⟨rb, 0, none⟩), .int .i64 k, .int .i64 o] w R := by
  have HR := hide hR
  clear hR
  refine calls_of_rn Tryz.func180 rfl ?_
  rw [Tryz.ntmps180, u39]
  simp only [List.replicate]
  have hf1 := (Fr.refl (fun k => k = ch) w).alloc z49
  have hs1 : (w.alloc z49).cell? ⟨rb, 0, none⟩ = some (.chan (some ch)) := (hf1.cell rb 0 hsb hne).trans hs
  have hc1 : ChanAt (w.alloc z49) ch (.agg #[.int .i64 k', .int .i64 o', .int .i64 n', .slice fa fl fc] :: vs) := hc.block (Below.heap_alloc _ _ _ hc.lt)
  have hrow := heap_alloc_new w z49
  have hw1 : w.heap.size ≠ ch := by have := hc.lt; omega
  have hz1 : w.heap.size < (w.alloc z49).heap.size := by simp
  have HF1 := hide hf1
  have HROW := hide hrow
  have HC1 := hide hc1
  clear hf1 hrow hc1 hc hs
  refine Rn.seq (Rn.go ?_)
  go_wp2
  generalize hW : w.alloc z49 = W1 at *
  clear hW
  refine exNo_normal (Rn.seq (Rn.region' [0, 1, 2, 3, 4, 5, 6, 7, 8, 9, 10] rfl ?_))
  refine Rn.op rfl rfl rfl ?_
  refine Rn.op rfl rfl rfl ?_
  refine Rn.op rfl rfl rfl ?_
  refine Rn.op (v := .chan (some ch)) (w' := W1) rfl rfl ?_ ?_
  · simp [execOp, Act.eval, Act.put, go_sem, hs1]
  refine Rn.take (c := ch) (z := .agg #[.int .i64 0, .int .i64 0, .int .i64 0, .slice none 0 0]) (vs := .agg #[.int .i64 k', .int .i64 o', .int .i64 n', .slice fa fl fc] :: vs) (by decide) rfl rfl ?_ (unhide HC1) ?_
  · simp [execOp, Act.eval, Act.put, go_sem, rcase]
  intro W2 f2 c2
  have C2 := hide (show ChanAt W2 ch vs from c2)
  have F2 := hide ((unhide HF1).trans f2)
  have HR2 := hide ((f2.same w.heap.size hz1 hw1).trans (unhide HROW))
  have hz2 := Nat.lt_of_lt_of_le hz1 f2.size
  clear c2 f2 HC1 HROW HF1 hs1
  simp only [Act.put]
  refine Rn.op (v := .tuple #[.agg #[.int .i64 k', .int .i64 o', .int .i64 n', .slice fa fl fc], .bool true]) (w' := W2) rfl rfl (by simp [execOp, Act.eval, go_sem]) ?_
  simp only [Act.put]
  refine Rn.op (v := .agg #[.int .i64 k', .int .i64 o', .int .i64 n', .slice fa fl fc]) (w' := W2) rfl rfl (by simp [execOp, Act.eval, go_sem]) ?_
  simp only [Act.put]
  refine Rn.op (v := .bool true) (w' := W2) rfl rfl (by simp [execOp, Act.eval, go_sem]) ?_
  simp only [Act.put]
  refine Rn.op (v := .pointer (some ⟨W2.heap.size, 0, none⟩)) (w' := W2.alloc z49) rfl rfl (by simp [execOp, go_sem]) ?_
  simp only [Act.put]
  refine Rn.skip (w' := W2.alloc (.cells #[.int .i64 k', .int .i64 o', .int .i64 n', .slice fa fl fc] 49)) rfl rfl (by simp [execOp, Act.eval, go_sem]) ?_
  simp only [Act.put]
  refine Rn.op (v := .bool true) (w' := W2.alloc (.cells #[.int .i64 k', .int .i64 o', .int .i64 n', .slice fa fl fc] 49)) rfl rfl (by simp [execOp, Act.eval, go_sem]) ?_
  simp only [Act.put]
  refine Rn.regionEnd ?_
  refine Rn.body rfl Tryz.func180 ?_
  have hrow8 := heap_alloc_new W2 (.cells #[.int .i64 k', .int .i64 o', .int .i64 n', .slice fa fl fc] 49)
  have hrow6 := (Below.heap_alloc W2 (.cells #[.int .i64 k', .int .i64 o', .int .i64 n', .slice fa fl fc] 49) _ hz2).trans (unhide HR2)
  have hfa : Fr (fun _ => False) W2 (W2.alloc (.cells #[.int .i64 k', .int .i64 o', .int .i64 n', .slice fa fl fc] 49)) (fun _ => False) := (Fr.refl _ _).alloc _
  generalize hW : W2.alloc (.cells #[.int .i64 k', .int .i64 o', .int .i64 n', .slice fa fl fc] 49) = W3 at *
  clear hW
  have g8 := fun j => cell_of_row W3 W2.heap.size j _ 49 (0, 0) hrow8
  have H8 := hide hrow8
  have H6 := hide hrow6
  have HFA := hide hfa
  have hl8 := (Array.getElem?_eq_some_iff.1 hrow8).1
  have hl6 := (Array.getElem?_eq_some_iff.1 hrow6).1
  clear hrow8 hrow6 hfa
  have H56 := hide (isEnd_any k' o' n' 5 fa fl fc W3)
  by_cases h5 : k' = 5 ∧ n' = 5
  · rw [if_pos h5] at HR
    simp only [decide_eq_true h5] at H56
    clear h5
    go_wp2_with (go_at_call 56; refine (unhide H56).mono ?_; rintro e W4 ⟨rfl, f4⟩; have r6 := (f4.same _ hl6 (fun h => h)).trans (unhide H6); have c6 := fun j => cell_of_row W4 _ j _ 49 (0, 0) r6; have z6 := fun j => frozen_rowE r6 j; have r8 := (f4.same _ hl8 (fun h => h)).trans (unhide H8); have c8 := fun j => cell_of_row W4 _ j _ 49 (0, 0) r8; have F4 := hide ((unhide HFA).trans f4); clear f4 r6 r8)
    refine exRet_ret (bodyPost_ret (v := .tuple #[.agg #[.int .i64 0, .int .i64 0, .int .i64 0, .slice none 0 0], .int .i64 5]) (by simp [results, Tryz.results180, go_sem, c6]) rfl ?_)
    exact unhide HR _ (outS (unhide F2) (unhide F4) _ _ _ _) (outC (unhide F2) (unhide F4) (unhide C2) hw1 _ _ _ _)
  · rw [if_neg h5] at HR
    simp only [decide_eq_false h5] at H56
    clear h5
    by_cases hk : k' = k
    · subst hk
      by_cases ho : o' = o
      · subst ho
        rw [if_neg (by simp)] at HR
        go_wp2_with (go_at_call 56; refine (unhide H56).mono ?_; rintro e W4 ⟨rfl, f4⟩; have r6 := (f4.same _ hl6 (fun h => h)).trans (unhide H6); have c6 := fun j => cell_of_row W4 _ j _ 49 (0, 0) r6; have z6 := fun j => frozen_rowE r6 j; have r8 := (f4.same _ hl8 (fun h => h)).trans (unhide H8); have c8 := fun j => cell_of_row W4 _ j _ 49 (0, 0) r8; have F4 := hide ((unhide HFA).trans f4); clear f4 r6 r8)
        refine exRet_ret (bodyPost_ret (v := .tuple #[.agg #[.int .i64 k', .int .i64 o', .int .i64 n', .slice fa fl fc], .int .i64 0]) (by simp [results, Tryz.results180, go_sem, c6]) rfl ?_)
        exact unhide HR _ (outS (unhide F2) (unhide F4) _ _ _ _) (outC (unhide F2) (unhide F4) (unhide C2) hw1 _ _ _ _)
      · rw [if_pos (.inr ho)] at HR
        have hob : (o' != o) = true := by simpa using ho
        go_wp2_with (go_at_call 56; refine (unhide H56).mono ?_; rintro e W4 ⟨rfl, f4⟩; have r6 := (f4.same _ hl6 (fun h => h)).trans (unhide H6); have c6 := fun j => cell_of_row W4 _ j _ 49 (0, 0) r6; have z6 := fun j => frozen_rowE r6 j; have r8 := (f4.same _ hl8 (fun h => h)).trans (unhide H8); have c8 := fun j => cell_of_row W4 _ j _ 49 (0, 0) r8; have F4 := hide ((unhide HFA).trans f4); clear f4 r6 r8)
        refine exRet_ret (bodyPost_ret (v := .tuple #[.agg #[.int .i64 0, .int .i64 0, .int .i64 0, .slice none 0 0], .int .i64 6]) (by simp [results, Tryz.results180, go_sem, c6]) rfl ?_)
        exact unhide HR _ (outS (unhide F2) (unhide F4) _ _ _ _) (outC (unhide F2) (unhide F4) (unhide C2) hw1 _ _ _ _)
    · rw [if_pos (.inl hk)] at HR
      have hkb : (k' != k) = true := by simpa using hk
      go_wp2_with (go_at_call 56; refine (unhide H56).mono ?_; rintro e W4 ⟨rfl, f4⟩; have r6 := (f4.same _ hl6 (fun h => h)).trans (unhide H6); have c6 := fun j => cell_of_row W4 _ j _ 49 (0, 0) r6; have z6 := fun j => frozen_rowE r6 j; have r8 := (f4.same _ hl8 (fun h => h)).trans (unhide H8); have c8 := fun j => cell_of_row W4 _ j _ 49 (0, 0) r8; have F4 := hide ((unhide HFA).trans f4); clear f4 r6 r8)
      refine exRet_ret (bodyPost_ret (v := .tuple #[.agg #[.int .i64 0, .int .i64 0, .int .i64 0, .slice none 0 0], .int .i64 6]) (by simp [results, Tryz.results180, go_sem, c6]) rfl ?_)
      exact unhide HR _ (outS (unhide F2) (unhide F4) _ _ _ _) (outC (unhide F2) (unhide F4) (unhide C2) hw1 _ _ _ _)
def nextV (x : Option (Int × Int × Int × Option Addr × Nat × Nat)) (vs : List Value) : List Value := match x with
  | none => []
  | some (k', o', n', fa, fl, fc) => .agg #[.int .i64 k', .int .i64 o', .int .i64 n', .slice fa fl fc] :: vs
def endX (own : Int) (x : Option (Int × Int × Int × Option Addr × Nat × Nat)) : Int := match x with
  | none => own
  | some (k', _, n', _) => if k' = 5 ∧ n' = own then own else 6
theorem u30 (x y : Value) : (#[x, y] ++ Array.replicate (30 - (#[x, y] : Array Value).size) undef) = (x :: y :: List.replicate 28 undef).toArray := by simp
set_option maxRecDepth 100000 in
set_option maxHeartbeats 4000000 in
/-- The end of a replay. -/
theorem end_any {w : World} {rb ch : Nat} (hs : w.cell? ⟨rb, 0, none⟩ = some (.chan (some ch))) (own : Int) (x : Option (Int × Int × Int × Option Addr × Nat × Nat)) (vs : List Value) (hc : ChanAt w ch (nextV x vs)) :
    Calls Tryz.prog 30 #[.pointer (some ⟨rb, 0, none⟩), .int .i64 own] w fun e w' => e = .returned (.int .i64 (if own = 5 ∨ own = 6 then own else endX own x)) ∧ Fr (fun k => k = ch) w w' (fun k => k = ch) := by
  by_cases h56 : own = 5 ∨ own = 6
  · simp only [if_pos h56]
    rcases h56 with rfl | rfl
    all_goals
      refine calls_of_rn Tryz.func30 rfl ?_
      rw [Tryz.ntmps30, u30]
      simp only [List.replicate]
      refine Rn.seq (Rn.go ?_)
      go_wp2
      refine exNo_normal (Rn.seq (Rn.body rfl Tryz.func30 ?_))
      go_wp2
      refine exRet_ret (bodyPost_ret (by simp [results, Tryz.results30, go_sem]) rfl ⟨rfl, Fr.refl _ _⟩)
  simp only [if_neg h56]
  have b5 : (own == 5) = false := by simp; omega
  have b6 : (own == 6) = false := by simp; omega
  have HC := hide hc
  clear hc
  refine calls_of_rn Tryz.func30 rfl ?_
  rw [Tryz.ntmps30, u30]
  simp only [List.replicate]
  refine Rn.seq (Rn.go ?_)
  go_wp2
  refine exNo_normal (Rn.seq (Rn.go ?_))
  go_wp2
  refine exNo_normal (Rn.seq (Rn.seq (Rn.region' [0, 1, 2, 3, 4, 5, 6, 7, 8, 9, 10] rfl ?_)))
  refine Rn.op rfl rfl rfl ?_
  refine Rn.op rfl rfl rfl ?_
  refine Rn.op rfl rfl rfl ?_
  refine Rn.op (v := .chan (some ch)) (w' := w) rfl rfl ?_ ?_
  · simp [execOp, Act.eval, Act.put, go_sem, hs]
  refine Rn.take (c := ch) (z := .agg #[.int .i64 0, .int .i64 0, .int .i64 0, .slice none 0 0]) (by decide) rfl rfl ?_ (unhide HC) ?_
  · simp [execOp, Act.eval, Act.put, go_sem, rcase]
  intro W2 f2 c2
  have F2 := hide f2
  clear c2 f2 HC
  simp only [Act.put]
  rcases x with _ | ⟨k', o', n', fa, fl, fc⟩
  · simp only [nextV, endX]
    refine Rn.op (v := .tuple #[.agg #[.int .i64 0, .int .i64 0, .int .i64 0, .slice none 0 0], .bool false]) (w' := W2) rfl rfl (by simp [execOp, Act.eval, go_sem]) ?_
    simp only [Act.put]
    refine Rn.op (v := .agg #[.int .i64 0, .int .i64 0, .int .i64 0, .slice none 0 0]) (w' := W2) rfl rfl (by simp [execOp, Act.eval, go_sem]) ?_
    simp only [Act.put]
    refine Rn.op (v := .bool false) (w' := W2) rfl rfl (by simp [execOp, Act.eval, go_sem]) ?_
    simp only [Act.put]
    refine Rn.op (v := .pointer (some ⟨W2.heap.size, 0, none⟩)) (w' := W2.alloc z49) rfl rfl (by simp [execOp, go_sem]) ?_
    simp only [Act.put]
    refine Rn.skip (w' := W2.alloc (.cells #[.int .i64 0, .int .i64 0, .int .i64 0, .slice none 0 0] 49)) rfl rfl (by simp [execOp, Act.eval, go_sem]) ?_
    simp only [Act.put]
    refine Rn.op (v := .bool false) (w' := W2.alloc (.cells #[.int .i64 0, .int .i64 0, .int .i64 0, .slice none 0 0] 49)) rfl rfl (by simp [execOp, Act.eval, go_sem]) ?_
    simp only [Act.put]
    refine Rn.regionEnd ?_
    refine Rn.go ?_
    go_wp2
    refine exNo_normal (Rn.body rfl Tryz.func30 ?_)
    go_wp2
    refine exRet_ret (bodyPost_ret (by simp [results, Tryz.results30, go_sem]) rfl ⟨rfl, (unhide F2).alloc _⟩)
  · simp only [nextV, endX]
    refine Rn.op (v := .tuple #[.agg #[.int .i64 k', .int .i64 o', .int .i64 n', .slice fa fl fc], .bool true]) (w' := W2) rfl rfl (by simp [execOp, Act.eval, go_sem]) ?_
    simp only [Act.put]
    refine Rn.op (v := .agg #[.int .i64 k', .int .i64 o', .int .i64 n', .slice fa fl fc]) (w' := W2) rfl rfl (by simp [execOp, Act.eval, go_sem]) ?_
    simp only [Act.put]
    refine Rn.op (v := .bool true) (w' := W2) rfl rfl (by simp [execOp, Act.eval, go_sem]) ?_
    simp only [Act.put]
    refine Rn.op (v := .pointer (some ⟨W2.heap.size, 0, none⟩)) (w' := W2.alloc z49) rfl rfl (by simp [execOp, go_sem]) ?_
    simp only [Act.put]
    refine Rn.skip (w' := W2.alloc (.cells #[.int .i64 k', .int .i64 o', .int .i64 n', .slice fa fl fc] 49)) rfl rfl (by simp [execOp, Act.eval, go_sem]) ?_
    simp only [Act.put]
    refine Rn.op (v := .bool true) (w' := W2.alloc (.cells #[.int .i64 k', .int .i64 o', .int .i64 n', .slice fa fl fc] 49)) rfl rfl (by simp [execOp, Act.eval, go_sem]) ?_
    simp only [Act.put]
    refine Rn.regionEnd ?_
    have hrow8 := heap_alloc_new W2 (.cells #[.int .i64 k', .int .i64 o', .int .i64 n', .slice fa fl fc] 49)
    have hfa : Fr (fun _ => False) W2 (W2.alloc (.cells #[.int .i64 k', .int .i64 o', .int .i64 n', .slice fa fl fc] 49)) (fun _ => False) := (Fr.refl _ _).alloc _
    generalize hW : W2.alloc (.cells #[.int .i64 k', .int .i64 o', .int .i64 n', .slice fa fl fc] 49) = W3 at *
    clear hW
    have g8 := fun j => cell_of_row W3 W2.heap.size j _ 49 (0, 0) hrow8
    have HFA := hide hfa
    clear hrow8 hfa
    have H56 := hide (isEnd_any k' o' n' own fa fl fc W3)
    by_cases h : k' = 5 ∧ n' = own
    · simp only [decide_eq_true h] at H56
      rw [if_pos h]
      clear h
      refine Rn.go ?_
      go_wp2_with (go_at_call 56; refine (unhide H56).mono ?_; rintro e W4 ⟨rfl, f4⟩; have F4 := hide ((unhide HFA).trans f4); clear f4)
      refine exNo_normal (Rn.body rfl Tryz.func30 ?_)
      go_wp2
      refine exRet_ret (bodyPost_ret (by simp [results, Tryz.results30, go_sem]) rfl ⟨rfl, (unhide F2).trans ((unhide F4).wide _)⟩)
    · simp only [decide_eq_false h] at H56
      rw [if_neg h]
      clear h
      refine Rn.body rfl Tryz.func30 ?_
      go_wp2_with (go_at_call 56; refine (unhide H56).mono ?_; rintro e W4 ⟨rfl, f4⟩; have F4 := hide ((unhide HFA).trans f4); clear f4)
      refine exRet_ret (bodyPost_ret (by simp [results, Tryz.results30, go_sem]) rfl ⟨rfl, (unhide F2).trans ((unhide F4).wide _)⟩)
end Go.Proofs.YtfmbebofllgmoaaGreatDoor
namespace Go.Proofs.YtfmbebofllgmoaaGreatDoor
open Go.RowKit

/-! ### What is read fits -/
theorem rcL_fit {l : List Nat} (hb : ∀ x, x ∈ l → x < 256) {x : Inp} {k : Nat} (h : rcL l = .inr (x, k)) : Fit x := by
  cases l with
  | nil => simp [rcL] at h
  | cons n t =>
    simp only [rcL] at h
    split at h
    · cases h
    split at h
    · cases h
    split at h
    · cases h
    split at h
    · cases h
    split at h
    · cases h
    · rename_i y hy
      injection h with h
      injection h with h1 h2
      subst h1
      exact ((ipL_iff _ (fun z hz => hb z (List.mem_cons_of_mem _ (List.mem_of_mem_take hz))) y).1 hy).1
theorem rdL_fit : ∀ (f : Nat) (l : List Nat) (a : Nat), (∀ x, x ∈ l → x < 256) → ∀ x, x ∈ (rdL f l a).1 → Fit x
  | 0, _, _, _, x, h => by simp [rdL] at h
  | f + 1, l, a, hb, x, h => by
    simp only [rdL] at h
    cases hr : rcL l with
    | inl w => rw [hr] at h; simp at h
    | inr q =>
      obtain ⟨y, k⟩ := q
      rw [hr] at h
      simp only at h
      split at h
      · rw [List.mem_singleton.1 h]; exact rcL_fit hb hr
      · rcases List.mem_cons.1 h with h | h
        · rw [h]; exact rcL_fit hb hr
        · exact rdL_fit f _ _ (fun z hz => hb z (List.mem_of_mem_drop hz)) x h
theorem readL_fit (s : ByteArray) : ∀ x, x ∈ (readL (bs s)).1 → Fit x := by
  intro x h
  unfold readL at h
  split at h
  · exact rdL_fit _ _ _ (fun z hz => bs_lt s z (List.mem_of_mem_drop hz)) x h
  · split at h <;> simp at h
/-- What a log may be heard as. -/
def rdV (s : ByteArray) : VL := ⟨(readL (bs s)).1, readL_fit s⟩

/-! ### The source in memory -/
structure RepAt (rb ch : Nat) (T : Nat → Prop) (w : World) (ps : List (Inp × Value)) : Prop where
  r : w.heap[rb]? = some (.cells #[.chan (some ch)] 118)
  c : ChanAt w ch (ps.map aggP)
  ne : rb ≠ ch
  inT : T rb ∧ T ch
  sh : ∀ p, p ∈ ps → ∃ a l c, p.2 = .slice a l c
  fl : ∀ p, p ∈ ps → IntsIn w p.2 (zs p.1.2.2.2) (fun q => own p.2 q ∧ T q)
  ow : ∀ p, p ∈ ps → ∀ q, own p.2 q → q ≠ rb ∧ q ≠ ch
  dis : ps.Pairwise fun p p' => ∀ q, own p.2 q → ¬ own p'.2 q
def RepA (rb ch : Nat) (T : Nat → Prop) (w : World) (y : VL) : Prop := ∃ ps, RepAt rb ch T w ps ∧ ps.map (·.1) = y.1
theorem repA_law (rb ch : Nat) : SrcLaw (RepA rb ch) := by
  constructor
  rintro S w w' y ⟨ps, h, e⟩ hs _
  exact ⟨ps, ⟨(hs rb h.inT.1).trans h.r, h.c.block (hs ch h.inT.2), h.ne, h.inT, h.sh, fun p hp => (h.fl p hp).block (fun q hq => hs q hq.2), h.ow, h.dis⟩, e⟩
theorem invoke_hearR : Hears 75 180 := fun a k o w => by kernel_rfl
theorem repA_hear {B : Nat} {may : Int → Int → Prop} (rb ch : Nat) : HearSpec (RepA rb ch) repAsk may B rb 75 180 := by
  refine ⟨invoke_hearR, ?_⟩
  rintro T w ⟨l, hl⟩ k o ⟨ps, h, e⟩ hT _
  change ps.map (·.1) = l at e
  have c0 : w.cell? ⟨rb, 0, none⟩ = some (.chan (some ch)) := cell_of_row _ _ 0 _ 118 (0, 0) h.r
  have frT : ∀ {w' : World} {T' : Nat → Prop}, Fr (fun k => k = ch) w w' (fun k => k = ch) → (∀ k, T' k → T k) → Fr T w w' T' := fun f ht => ⟨f.os, f.tape, f.output, f.size, fun k hk hn => f.same k hk (fun e => hn (e ▸ h.inT.2)), fun k _ h => ht k h⟩
  cases ps with
  | nil =>
    subst e
    refine hearR_nil c0 (hT rb h.inT.1) h.ne h.c k o ?_
    intro w' f c
    refine ⟨.slice none 0 0, T, rfl, ⟨[], ⟨(f.same rb (hT rb h.inT.1) h.ne).trans h.r, c, h.ne, h.inT, fun _ h => absurd h (by simp), fun _ h => absurd h (by simp), fun _ h => absurd h (by simp), List.Pairwise.nil⟩, rfl⟩, frT f (fun _ h => h), fun q hq => Nat.lt_of_lt_of_le (hT q hq) f.size, ints_nil _ _⟩
  | cons p r =>
    obtain ⟨⟨xk, xo, xn, xf⟩, v⟩ := p
    obtain ⟨fa, fl, fc, hv⟩ := h.sh _ (List.mem_cons_self ..)
    change v = _ at hv
    subst hv
    subst e
    obtain ⟨d1, d2⟩ := List.pairwise_cons.1 h.dis
    refine hearR_cons c0 (hT rb h.inT.1) h.ne xk xo xn fa fl fc (r.map aggP) h.c k o ?_
    intro w' f c
    have hsame : ∀ q, T q → q ≠ ch → w'.heap[q]? = w.heap[q]? := fun q hq hn => f.same q (hT q hq) hn
    have hrep : RepAt rb ch (fun q => T q ∧ ¬ own (.slice fa fl fc) q) w' r := by
      refine ⟨(hsame rb h.inT.1 h.ne).trans h.r, c, h.ne, ⟨⟨h.inT.1, fun ho => (h.ow _ (List.mem_cons_self ..) rb ho).1 rfl⟩, ⟨h.inT.2, fun ho => (h.ow _ (List.mem_cons_self ..) ch ho).2 rfl⟩⟩, fun p hp => h.sh p (List.mem_cons_of_mem _ hp), ?_, fun p hp => h.ow p (List.mem_cons_of_mem _ hp), d2⟩
      intro p hp
      refine intsIn_kept (h.fl p (List.mem_cons_of_mem _ hp)) (fun q hq => hsame q hq.2 (h.ow p (List.mem_cons_of_mem _ hp) q hq.1).2) (fun q hq => ⟨hq.1, hq.2, fun ho => d1 p hp q ho hq.1⟩)
    have hy : r.map (·.1) = (repAsk ⟨_, hl⟩ k o).2.1 := rfl
    have hb : ∀ q, T q ∧ ¬ own (.slice fa fl fc) q → q < w'.heap.size := fun q hq => Nat.lt_of_lt_of_le (hT q hq.1) f.size
    have key : ∀ fv, Value.tuple #[.agg #[.int .i64 (repR ((xk, xo, xn, xf) :: r.map (·.1)) k o).kind, .int .i64 (repR ((xk, xo, xn, xf) :: r.map (·.1)) k o).of, .int .i64 (repR ((xk, xo, xn, xf) :: r.map (·.1)) k o).n, fv], .int .i64 (repR ((xk, xo, xn, xf) :: r.map (·.1)) k o).e] = (if (xk : Int) = 5 ∧ (xn : Int) = 5 then .tuple #[.agg #[.int .i64 0, .int .i64 0, .int .i64 0, .slice none 0 0], .int .i64 5] else if (xk : Int) ≠ k ∨ (xo : Int) ≠ o then .tuple #[.agg #[.int .i64 0, .int .i64 0, .int .i64 0, .slice none 0 0], .int .i64 6] else .tuple #[.agg #[.int .i64 xk, .int .i64 xo, .int .i64 xn, .slice fa fl fc], .int .i64 0]) → IntsIn w' fv (repR ((xk, xo, xn, xf) :: r.map (·.1)) k o).files (fun q => (q < B ∨ w.heap.size ≤ q ∨ T q) ∧ q < w'.heap.size ∧ ¬ (T q ∧ ¬ own (.slice fa fl fc) q)) →
        ∃ fv T', Ending.returned (if (xk : Int) = 5 ∧ (xn : Int) = 5 then .tuple #[.agg #[.int .i64 0, .int .i64 0, .int .i64 0, .slice none 0 0], .int .i64 5] else if (xk : Int) ≠ k ∨ (xo : Int) ≠ o then .tuple #[.agg #[.int .i64 0, .int .i64 0, .int .i64 0, .slice none 0 0], .int .i64 6] else .tuple #[.agg #[.int .i64 xk, .int .i64 xo, .int .i64 xn, .slice fa fl fc], .int .i64 0]) = .returned (.tuple #[.agg #[.int .i64 (repR ((xk, xo, xn, xf) :: r.map (·.1)) k o).kind, .int .i64 (repR ((xk, xo, xn, xf) :: r.map (·.1)) k o).of, .int .i64 (repR ((xk, xo, xn, xf) :: r.map (·.1)) k o).n, fv], .int .i64 (repR ((xk, xo, xn, xf) :: r.map (·.1)) k o).e]) ∧
          RepA rb ch T' w' (repAsk ⟨(((xk, xo, xn, xf), Value.slice fa fl fc) :: r).map (·.1), hl⟩ k o).2 ∧ Fr T w w' T' ∧ (∀ q, T' q → q < w'.heap.size) ∧ IntsIn w' fv (repR ((xk, xo, xn, xf) :: r.map (·.1)) k o).files (fun q => (q < B ∨ w.heap.size ≤ q ∨ T q) ∧ q < w'.heap.size ∧ ¬ T' q) :=
      fun fv e1 e2 => ⟨fv, _, by rw [← e1], ⟨r, hrep, hy⟩, frT f (fun _ h => h.1), hb, e2⟩
    by_cases h5 : xk = 5 ∧ xn = 5
    · refine key (.slice none 0 0) ?_ ?_
      · simp only [repR]; rw [if_pos h5, if_pos (by omega)]; rfl
      · simp only [repR]; rw [if_pos h5]; exact ints_nil _ _
    · by_cases hk : (xk : Int) ≠ k ∨ (xo : Int) ≠ o
      · refine key (.slice none 0 0) ?_ ?_
        · simp only [repR]; rw [if_neg h5, if_pos hk, if_neg (by omega), if_pos hk]; rfl
        · simp only [repR]; rw [if_neg h5, if_pos hk]; exact ints_nil _ _
      · refine key (.slice fa fl fc) ?_ ?_
        · simp only [repR]; rw [if_neg h5, if_neg hk, if_neg (by omega), if_neg hk]; rfl
        · simp only [repR]; rw [if_neg h5, if_neg hk]
          have hf := h.fl _ (List.mem_cons_self ..)
          refine intsIn_kept hf (fun q hq => hsame q hq.2 (h.ow _ (List.mem_cons_self ..) q hq.1).2) (fun q hq => ⟨.inr (.inr hq.2), Nat.lt_of_lt_of_le (hT q hq.2) f.size, fun hn => hn.2 hq.1⟩)

/-! ### It is made -/
theorem flatP_get : ∀ (ps : List (Inp × Value)) (i : Nat) (p : Inp × Value), ps[i]? = some p → (flatP ps)[i * 4]? = some (.int .i64 p.1.1) ∧ (flatP ps)[i * 4 + 1]? = some (.int .i64 p.1.2.1) ∧ (flatP ps)[i * 4 + 2]? = some (.int .i64 p.1.2.2.1) ∧ (flatP ps)[i * 4 + 3]? = some p.2
  | [], i, p, h => by simp at h
  | x :: r, 0, p, h => by
    simp at h
    subst h
    exact ⟨rfl, rfl, rfl, rfl⟩
  | x :: r, i + 1, p, h => by
    have hr := flatP_get r i p (by simpa using h)
    have e : ∀ j, (flatP (x :: r))[(i + 1) * 4 + j]? = (flatP r)[i * 4 + j]? := fun j => by
      rw [show (i + 1) * 4 + j = (i * 4 + j) + 4 by omega]; rfl
    exact ⟨(e 0).trans hr.1, (e 1).trans hr.2.1, (e 2).trans hr.2.2.1, (e 3).trans hr.2.2.2⟩
theorem row_cell {W : World} {B e size n : Nat} {v : Value} {xs : List Value} (h : W.ownsRow B e size v n xs) (hn : 0 < n) : ∃ g c, v = .slice (some ⟨g, 0, none⟩) n c ∧ B ≤ g ∧ g < W.heap.size ∧ ∀ j u, xs[j]? = some u → W.cell? ⟨g, j, none⟩ = some u := by
  rcases h.2 with ⟨_, h0⟩ | ⟨g, cap, cur, hv, hB, hg, h1, h2, h3, h4⟩
  · omega
  · refine ⟨g, cap, hv, hB, (Array.getElem?_eq_some_iff.1 hg).1, fun j u hj => ?_⟩
    rw [cell_of_row W g j cur e (0, 0) hg]
    have hlt := (List.getElem?_eq_some_iff.1 hj).1
    rw [← h4, List.getElem?_take_of_lt (by rw [← h4, List.length_take] at hlt; omega)] at hj
    simpa using hj
theorem row_shapeP {W : World} {B e size n : Nat} {v : Value} {xs : List Value} (h : W.ownsRow B e size v n xs) : ∃ a c, v = .slice a n c := by
  rcases h.2 with ⟨h1, h0⟩ | ⟨g, cap, cur, hv, _⟩
  · exact ⟨none, 0, by rw [h0]; exact h1⟩
  · exact ⟨_, _, hv⟩
theorem newR_any {w : World} {B : Nat} {a : Option Addr} {n c : Nat} {ps : List (Inp × Value)} (h : InsAt w B (.slice a n c) ps) (hn : ps.length ≤ 2000000) :
    Calls Tryz.prog 28 #[.slice a n c] w fun e w' => ∃ rb, e = .returned (.pointer (some ⟨rb, 0, none⟩)) ∧ w.heap.size < rb ∧ w'.heap[rb]? = some (.cells #[.chan (some w.heap.size)] 118) ∧ ChanAt w' w.heap.size (ps.map aggP) ∧ Fr (fun _ => False) w w' (fun _ => False) := by
  obtain ⟨a', c', e⟩ := row_shapeP h.row
  have hl : n = ps.length := by cases e; rfl
  subst hl
  have h52 := filledP_any (w := w) a ps.length c (fun i => (ps.getD i ((0, 0, 0, []), .slice none 0 0)).1.1) (fun i => (ps.getD i ((0, 0, 0, []), .slice none 0 0)).1.2.1) (fun i => (ps.getD i ((0, 0, 0, []), .slice none 0 0)).1.2.2.1) (fun i => (ps.getD i ((0, 0, 0, []), .slice none 0 0)).2) hn (fun i hi => by
    obtain ⟨g, cc, hv, hB, hg, hcell⟩ := row_cell h.row (by omega)
    have e1 : ps[i]? = some (ps.getD i ((0, 0, 0, []), .slice none 0 0)) := by rw [List.getD_eq_getElem?_getD, List.getElem?_eq_getElem hi]; rfl
    obtain ⟨g0, g1, g2, g3⟩ := flatP_get ps i _ e1
    injection hv with hv
    exact ⟨g, hv, hg, hcell _ _ g0, hcell _ _ g1, hcell _ _ g2, hcell _ _ g3⟩) (fun i => by
    by_cases hi : i < ps.length
    · rw [List.getD_eq_getElem?_getD, List.getElem?_eq_getElem hi]
      exact ownI_shape (h.fl _ (List.getElem_mem hi))
    · rw [List.getD_eq_getElem?_getD, List.getElem?_eq_none (by omega)]
      exact ⟨_, _, _, rfl⟩)
  have hmap : (List.range ps.length).map (fun i => Value.agg #[.int .i64 ((ps.getD i ((0, 0, 0, []), .slice none 0 0)).1.1 : Nat), .int .i64 ((ps.getD i ((0, 0, 0, []), .slice none 0 0)).1.2.1 : Nat), .int .i64 ((ps.getD i ((0, 0, 0, []), .slice none 0 0)).1.2.2.1 : Nat), (ps.getD i ((0, 0, 0, []), .slice none 0 0)).2]) = ps.map aggP := by
    apply List.ext_getElem
    · simp
    · intro i h1 h2
      have hi : i < ps.length := by simpa using h2
      simp only [List.getElem_map, List.getElem_range, List.getD_eq_getElem?_getD, List.getElem?_eq_getElem hi, Option.getD_some]
      rfl
  rw [hmap] at h52
  have H52 := hide h52
  clear h52 hmap h
  go_enter Tryz.func28, Tryz.ntmps28
  go_wp2_with (go_at_call 52; refine (unhide H52).mono ?_; rintro e w1 ⟨rfl, f1, c1⟩; have F1 := hide f1; have C1 := hide c1; have L1 := hide (Array.getElem?_eq_some_iff.1 c1).1; clear f1 c1)
  go_ret
  have hlt := unhide L1
  exact ⟨w1.heap.size, rfl, hlt, heap_alloc_new _ _, ⟨_, _, _, (Below.heap_alloc _ _ _ hlt).trans (unhide C1)⟩, (unhide F1).alloc _⟩
end Go.Proofs.YtfmbebofllgmoaaGreatDoor
namespace Go.Proofs.YtfmbebofllgmoaaGreatDoor
open Go.RowKit
attribute [local go_sem ↓] Go.wp_at_zero Go.wp_at_succ

theorem rdL_len : ∀ (f : Nat) (l : List Nat) (a : Nat), (rdL f l a).1.length ≤ l.length
  | 0, _, _ => Nat.zero_le _
  | f + 1, l, a => by
    simp only [rdL]
    cases hr : rcL l with
    | inl w => exact Nat.zero_le _
    | inr q =>
      obtain ⟨y, k⟩ := q
      have hk := rcL_size l y k hr
      simp only
      split
      · simp; omega
      · have := rdL_len f (l.drop k) (a + k)
        rw [List.length_drop] at this
        simp; omega
theorem readL_len (s : ByteArray) : (readL (bs s)).1.length ≤ s.size := by
  have hb : (bs s).length = s.size := by simp [bs]
  unfold readL
  split
  · have := rdL_len ((bs s).length + 1) ((bs s).drop 3) 3
    rw [List.length_drop] at this
    omega
  · split <;> exact Nat.zero_le _

/-- What a replay ends with. -/
def repS (p : Pg) (f : Int) (y : VL) : PS := { (repM p f y).1 with fin := endR (repM p f y).1.fin (repM p f y).2.1 }
def zeroF : Value := .agg #[.int .i64 0, .int .i64 0, .int .i64 0, .int .i64 0, .int .i64 0, .int .i64 0, .int .i64 0]
/-- Replay's answer. -/
def RepPost (w : World) (p : Pg) (f : Int) (s : ByteArray) (e : Ending) (w' : World) : Prop :=
  Fr (fun _ => False) w w' (fun _ => False) ∧ ∃ x, Ans p.tn p.fn (1 + p.tn + p.fn) (allL p.sn p.tn p.tl p.fl) (allF p.tn p.sf p.tf p.ff) x ∧
    ((x ≠ 0 ∧ e = .returned (.tuple #[.slice none 0 0, zeroF, .int .i64 x])) ∨
     (x = 0 ∧ (readL (bs s)).2.1 = 0 ∧ e = .returned (.tuple #[.slice none 0 0, zeroF, .int .i64 5])) ∨
     (x = 0 ∧ (readL (bs s)).2.1 ≠ 0 ∧ ∃ vt, e = .returned (.tuple #[vt, finV (repS p f (rdV s)), .int .i64 0]) ∧ w'.ownsRow w.heap.size 72 3 vt (repS p f (rdV s)).trace.length (flatE (repS p f (rdV s)).trace)))
/-- The source's own blocks at the start. -/
def srcT (rb ch : Nat) (ps : List (Inp × Value)) (q : Nat) : Prop := q = rb ∨ q = ch ∨ ∃ p, p ∈ ps ∧ own p.2 q
theorem rep_start {w2 w3 : World} {B rb : Nat} {v : Value} {ps : List (Inp × Value)} (h : InsAt w2 B v ps) (hrb : w2.heap.size < rb) (h1 : w3.heap[rb]? = some (.cells #[.chan (some w2.heap.size)] 118)) (h2 : ChanAt w3 w2.heap.size (ps.map aggP)) (hf : Fr (fun _ => False) w2 w3 (fun _ => False)) :
    RepAt rb w2.heap.size (srcT rb w2.heap.size ps) w3 ps ∧ (∀ q, srcT rb w2.heap.size ps q → min B w2.heap.size ≤ q ∧ q < w3.heap.size) := by
  have hown : ∀ p, p ∈ ps → ∀ q, own p.2 q → B ≤ q ∧ q < w2.heap.size := fun p hp q hq => World.ownsRow.lt (h.fl p hp) q hq
  refine ⟨⟨h1, h2, by omega, ⟨.inl rfl, .inr (.inl rfl)⟩, fun p hp => ownI_shape (h.fl p hp), fun p hp => ?_, fun p hp q hq => ?_, h.dis⟩, ?_⟩
  · exact intsIn_kept (ownI_ints (h.fl p hp)) (fun q hq => hf.same q hq.2.2 (fun h => h)) (fun q hq => ⟨hq.1, .inr (.inr ⟨p, hp, hq.1⟩)⟩)
  · have := hown p hp q hq; omega
  · rintro q (rfl | rfl | ⟨p, hp, hq⟩)
    · exact ⟨by omega, (Array.getElem?_eq_some_iff.1 h1).1⟩
    · exact ⟨by omega, h2.lt⟩
    · have := hown p hp q hq; have := hf.size; omega
theorem next_of (ps : List (Inp × Value)) (hs : ∀ p, p ∈ ps → ∃ a l c, p.2 = .slice a l c) (own : Int) : ∃ x vs, ps.map aggP = nextV x vs ∧ (if own = 5 ∨ own = 6 then own else endX own x) = endR own (ps.map (·.1)) := by
  cases ps with
  | nil => exact ⟨none, [], rfl, by simp [endR, endX]⟩
  | cons p r =>
    obtain ⟨a, l, c, e⟩ := hs p (List.mem_cons_self ..)
    refine ⟨some (p.1.1, p.1.2.1, p.1.2.2.1, a, l, c), r.map aggP, ?_, ?_⟩
    · simp only [nextV, List.map_cons, aggP, e]
    · simp only [endR, endX, List.map_cons]
      split
      · rfl
      · by_cases h5 : p.1.1 = 5 ∧ (p.1.2.2.1 : Int) = own
        · rw [if_pos h5, if_pos (by omega)]
        · rw [if_neg h5, if_neg (by omega)]

theorem heap_drew (V : World) : V.drew.heap = V.heap := rfl
/-- What is left of memory behind a replay. -/
theorem rep_end {n1 rb ch B b : Nat} {vt : Value} {pv : Nat → Value} {T S' T' : Nat → Prop} {w w3 w4 W7 : World} {s' : PS} {y' : VL} {ps' : List (Inp × Value)}
    (hri : RI (RepA rb ch) B S' w4 b pv vt T' s' y') (hsrc : RepAt rb ch T' w4 ps') (hfr : Fr T w3 w4 S') (hf3 : Fr (fun _ => False) w w3 (fun _ => False)) (hf6 : Fr (fun k => k = ch) w4 W7 (fun k => k = ch)) (hS : ∀ q, q < n1 → ¬ S' q) (hn1 : w.heap.size + 2 ≤ n1) (hz3 : n1 ≤ w3.heap.size) (hz4 : w3.heap.size ≤ w4.heap.size) (hT : ∀ q, T q → n1 ≤ q) :
    Fr (fun _ => False) w W7 (fun _ => False) ∧ W7.ownsRow w.heap.size 72 3 vt s'.trace.length (flatE s'.trace) ∧ (∀ q, own vt q → q ≠ w.heap.size + 1) := by
  have hch : n1 ≤ ch := by
    rcases Nat.lt_or_ge ch n1 with h | h
    · exact absurd (hri.inT ch hsrc.inT.2).1 (hS ch h)
    · exact h
  have hvt : ∀ q, own vt q → n1 ≤ q ∧ q ≠ ch ∧ q < w4.heap.size := by
    intro q hq
    obtain ⟨h1, _, h3⟩ := hri.inV q hq
    refine ⟨?_, fun e => h3 (e ▸ hsrc.inT.2), (hri.bound q h1).2⟩
    rcases Nat.lt_or_ge q n1 with h | h
    · exact absurd h1 (hS q h)
    · exact h
  refine ⟨⟨hf6.os.trans (hfr.os.trans hf3.os), hf6.tape.trans (hfr.tape.trans hf3.tape), hf6.output.trans (hfr.output.trans hf3.output), Nat.le_trans hf3.size (Nat.le_trans hfr.size hf6.size), fun k hk _ => ?_, fun _ _ h => h⟩, ?_, fun q hq => by have := hvt q hq; omega⟩
  · have hk3 : k < w3.heap.size := Nat.lt_of_lt_of_le hk hf3.size
    exact (hf6.same k (by omega) (by omega)).trans ((hfr.same k hk3 (fun h => by have := hT k h; omega)).trans (hf3.same k hk (fun h => h)))
  · have h5 := ownsRow_of_block (w' := W7) hri.row (fun q hq => hf6.same q (hvt q hq).2.2 (hvt q hq).2.1)
    refine ⟨h5.1, ?_⟩
    rcases h5.2 with h | ⟨g, cap, cur, e1, e2, r⟩
    · exact .inl h
    · exact .inr ⟨g, cap, cur, e1, by have := hvt g (by rw [e1]; rfl); omega, r⟩

set_option maxHeartbeats 4000000 in
set_option maxRecDepth 100000 in
theorem replay_any {w w0 : World} (hbel : Below w0.heap.size w0 w) (htab : TabIn w) {p1 p2 p3 : Value} {p : Pg} (hv : PgAt w0 (pvOf p1 p2 p3 undef) p) (f : Int) (s : ByteArray) (hs : s.size ≤ 1000000000) (hcnt : (readL (bs s)).1.length ≤ 2000000) :
    Calls Tryz.prog 15 #[.agg #[p1, p2, p3], .string s, .int .i64 f] w (RepPost w p f s) := by
  have hB2 : Below w.heap.size w ((w.alloc (.cells #[p1, p2, p3] 33)).alloc (.cells #[.int .i64 0, .int .i64 0, .int .i64 0, .int .i64 0, .int .i64 0, .int .i64 0, .int .i64 0] 37)) := bl2 _ _
  have hw0 : w0.heap.size ≤ w.heap.size := hbel.size
  have hck := pcheck_any p1 p2 p3 p.sn p.tn p.fn p.sf p.tl p.fl p.tf p.ff _ (tabIn_below hB2 (tabIn_lt htab) htab) (opsIn_below hB2 (opsIn_below hbel hv.s)) (handsIn_below hB2 (handsIn_below hbel hv.t)) (handsIn_below hB2 (handsIn_below hbel hv.f))
  have HCK := hide hck
  clear hck
  generalize hR : RepPost w p f s = R
  have HR := hide hR
  clear hR
  have t0 : ((w.alloc (.cells #[p1, p2, p3] 33)).alloc (.cells #[.int .i64 0, .int .i64 0, .int .i64 0, .int .i64 0, .int .i64 0, .int .i64 0, .int .i64 0] 37)).heap[w.heap.size]? = some (.cells #[p1, p2, p3] 33) := (Below.heap_alloc _ _ _ (by simp)).trans (heap_alloc_new _ _)
  have t1 : ((w.alloc (.cells #[p1, p2, p3] 33)).alloc (.cells #[.int .i64 0, .int .i64 0, .int .i64 0, .int .i64 0, .int .i64 0, .int .i64 0, .int .i64 0] 37)).heap[w.heap.size + 1]? = some (.cells #[.int .i64 0, .int .i64 0, .int .i64 0, .int .i64 0, .int .i64 0, .int .i64 0, .int .i64 0] 37) := by
    have := heap_alloc_new (w.alloc (.cells #[p1, p2, p3] 33)) (.cells #[.int .i64 0, .int .i64 0, .int .i64 0, .int .i64 0, .int .i64 0, .int .i64 0, .int .i64 0] 37)
    rwa [show (w.alloc (.cells #[p1, p2, p3] 33)).heap.size = w.heap.size + 1 by simp] at this
  have hsz2 : ((w.alloc (.cells #[p1, p2, p3] 33)).alloc (.cells #[.int .i64 0, .int .i64 0, .int .i64 0, .int .i64 0, .int .i64 0, .int .i64 0, .int .i64 0] 37)).heap.size = w.heap.size + 2 := by simp
  have T0 := hide t0
  have T1 := hide t1
  have HSZ := hide hsz2
  have HB2 := hide hB2
  clear t0 t1 hsz2 hB2
  go_enter Tryz.func15, Tryz.ntmps15
  go_wp2_with fail
  go_at_call 27
  refine (unhide HCK).mono ?_
  rintro e w1 ⟨x, rfl, hx, hb1⟩
  have hsz2 := unhide HSZ
  have b33 := (hb1.block w.heap.size (by omega)).trans (unhide T0)
  have b37 := (hb1.block (w.heap.size + 1) (by omega)).trans (unhide T1)
  have hz1 : w.heap.size + 2 ≤ w1.heap.size := by rw [← hsz2]; exact hb1.size
  have hf1 : Fr (fun _ => False) w w1 (fun _ => False) := (Fr.of_below (unhide HB2)).trans (Fr.of_below hb1)
  have c33 := fun j => cell_of_row w1 w.heap.size j _ 33 (0, 0) b33
  have c37 := fun j => cell_of_row w1 (w.heap.size + 1) j _ 37 (0, 0) b37
  have z37 := fun j => frozen_rowE b37 j
  have B33 := hide b33
  have B37 := hide b37
  have HX := hide hx
  have HF1 := hide hf1
  clear hsz2 b33 b37 hb1 hx hf1 HCK HB2 T0 T1 HSZ
  by_cases hx0 : x = 0
  · subst hx0
    have H16 := hide (read_any s (by omega) w1)
    go_wp2_with fail
    go_at_call 16
    refine (unhide H16).mono ?_
    rintro e w2 ⟨va, vn, vc, ps, rfl, hins, hps, fr2⟩
    have hf2 := (unhide HF1).trans fr2
    have HF2 := hide hf2
    have b37 := (fr2.same (w.heap.size + 1) (by omega) (fun h => h)).trans (unhide B37)
    have b33 := (fr2.same w.heap.size (by omega) (fun h => h)).trans (unhide B33)
    have hz2 : w1.heap.size ≤ w2.heap.size := fr2.size
    have B33' := hide b33
    have B37' := hide b37
    have d37 := fun j => cell_of_row w2 (w.heap.size + 1) j _ 37 (0, 0) b37
    have y37 := fun j => frozen_rowE b37 j
    have HINS := hide hins
    clear hf2 fr2 b37 b33 hins H16 c37 z37
    have hlen : ps.length = (readL (bs s)).1.length := by rw [← hps, List.length_map]
    have hlen2 := hcnt
    have hinb := fun q hq => (unhide HINS).lt (q := q) (.inr hq)
    by_cases hat : (readL (bs s)).2.1 = 0
    · have hatb : (((readL (bs s)).2.1 : Int) == 0) = true := by simp [hat]
      go_wp2
      have g0 := fun j => cell_of_row _ _ j _ 37 (0, 0) (out7 (unhide B37') (.int .i64 0) (.int .i64 0) (.int .i64 0) (.int .i64 0) (.int .i64 0) (.int .i64 0) (.int .i64 0))
      refine bodyPost_ret (v := .tuple #[.slice none 0 0, zeroF, .int .i64 5]) (by simp [results, Tryz.results15, go_sem, g0, zeroF]) rfl ?_
      rw [← unhide HR]
      exact ⟨out7_fr (unhide HF2) (.inr (by omega)) _ _ _ _ _ _ _, 0, unhide HX, .inr (.inl ⟨rfl, hat, rfl⟩)⟩
    have hatb : (((readL (bs s)).2.1 : Int) == 0) = false := by simp [hat]
    have H28 := hide (newR_any (unhide HINS) (by omega))
    go_wp2_with fail
    go_at_call 28
    refine (unhide H28).mono ?_
    rintro e w3 ⟨rb, rfl, hrb, k1, k2, fr3⟩
    obtain ⟨hra, hrT⟩ := rep_start (unhide HINS) hrb k1 k2 fr3
    have hf3 := (unhide HF2).trans fr3
    have hz3 : w2.heap.size ≤ w3.heap.size := fr3.size
    have b33 := (fr3.same w.heap.size (by omega) (fun h => h)).trans (unhide B33')
    have b37 := (fr3.same (w.heap.size + 1) (by omega) (fun h => h)).trans (unhide B37')
    have d33 := fun j => cell_of_row w3 w.heap.size j _ 33 (0, 0) b33
    have hbel3 : Below w0.heap.size w0 w3 := hbel.trans (hf3.below (B := w0.heap.size) (fun k hk => hk.elim) hw0)
    have h29 := run_any (repA_law rb w2.heap.size) (repA_hear (may := mayR) rb w2.heap.size) mayR_ok repAsk_ok (w0 := w0) (B := w0.heap.size) (T := srcT rb w2.heap.size ps) rfl hbel3 (fun k hk => by have := hrT k hk; omega) (x := rdV s) ⟨ps, hra, hps⟩ p1 p2 p3 (p := p) ⟨hv.s, hv.t, hv.f⟩ (pgok_of_ans (unhide HX)) f (by show (readL (bs s)).1.length ≤ 5000000; omega)
    have H29 := hide h29
    have HB37 := hide b37
    have HF3 := hide hf3
    have HRT := hide hrT
    clear h29 b37 b33 hf3 hrT hra k1 k2 fr3 hbel3 H28 d37 y37 c33
    go_wp2_with fail
    go_at_call 29
    refine (unhide H29).mono ?_
    rintro e w4 ⟨vt, s', S', T', b, rfl, hs', hri, hfr⟩
    change s' = (repM p f (rdV s)).1 at hs'
    change RI _ _ S' w4 b _ vt T' s' (repM p f (rdV s)).2 at hri
    have hrep : repS p f (rdV s) = { s' with fin := endR s'.fin (repM p f (rdV s)).2.1 } := by unfold repS; rw [hs']
    have hpost : RepPost w p f s = fun e w' => Fr (fun _ => False) w w' (fun _ => False) ∧ ∃ x, Ans p.tn p.fn (1 + p.tn + p.fn) (allL p.sn p.tn p.tl p.fl) (allF p.tn p.sf p.tf p.ff) x ∧
        ((x ≠ 0 ∧ e = .returned (.tuple #[.slice none 0 0, zeroF, .int .i64 x])) ∨
         (x = 0 ∧ (readL (bs s)).2.1 = 0 ∧ e = .returned (.tuple #[.slice none 0 0, zeroF, .int .i64 5])) ∨
         (x = 0 ∧ (readL (bs s)).2.1 ≠ 0 ∧ ∃ vt, e = .returned (.tuple #[vt, finV { s' with fin := endR s'.fin (repM p f (rdV s)).2.1 }, .int .i64 0]) ∧ w'.ownsRow w.heap.size 72 3 vt s'.trace.length (flatE s'.trace))) := by
      unfold RepPost; rw [hrep]
    rw [hpost] at HR
    clear hpost hs' hrep
    generalize (repM p f (rdV s)).2 = y' at *
    obtain ⟨ps', hsrc, hy'⟩ := hri.src
    have hz4 : w3.heap.size ≤ w4.heap.size := hfr.size
    have hTw : ∀ q, srcT rb w2.heap.size ps q → w1.heap.size ≤ q := fun q hq => by have := unhide HRT q hq; omega
    have hSw : ∀ q, q < w1.heap.size → ¬ S' q := fun q h1 h2 => by have := hTw q (hfr.old q (by omega) h2); omega
    have b37 : w4.heap[w.heap.size + 1]? = some (.cells #[.int .i64 0, .int .i64 0, .int .i64 0, .int .i64 0, .int .i64 0, .int .i64 0, .int .i64 0] 37) := (hfr.same _ (by omega) (fun h => by have := hTw _ h; omega)).trans (unhide HB37)
    obtain ⟨nx, nvs, hnx, hend⟩ := next_of ps' hsrc.sh s'.fin
    have hchlt : w2.heap.size < w4.heap.size := hsrc.c.lt
    have hrblt : rb < w4.heap.size := (Array.getElem?_eq_some_iff.1 hsrc.r).1
    have hz37 : w.heap.size + 1 < w4.heap.size := (Array.getElem?_eq_some_iff.1 b37).1
    have hne5 : w.heap.size + 1 ≠ w4.heap.size := by omega
    have hne5' : ¬ w4.heap.size = w.heap.size + 1 := by omega
    have h30 := end_any (w := w4.alloc (.cells #[.int .i64 s'.fin, .int .i64 (s'.reg 0), .int .i64 (s'.reg 1), .int .i64 (s'.reg 2), .int .i64 (s'.reg 3), .int .i64 s'.clock, .int .i64 s'.heard] 37)) (rb := rb) (ch := w2.heap.size)
      (cell_of_row _ _ 0 _ 118 (0, 0) ((Below.heap_alloc _ _ _ hrblt).trans hsrc.r)) s'.fin nx nvs ((show ChanAt w4 w2.heap.size (nextV nx nvs) from hnx ▸ hsrc.c).block (Below.heap_alloc _ _ _ hchlt))
    rw [hend, hy'] at h30
    have hv4 := fun j => cell_of_row (w4.alloc (.cells #[.int .i64 s'.fin, .int .i64 (s'.reg 0), .int .i64 (s'.reg 1), .int .i64 (s'.reg 2), .int .i64 (s'.reg 3), .int .i64 s'.clock, .int .i64 s'.heard] 37)) w4.heap.size j _ 37 (0, 0) (heap_alloc_new _ _)
    generalize hE : endR s'.fin y'.1 = E at *
    have H30 := hide h30
    have HRI := hide hri
    have HFR := hide hfr
    have HSRC := hide hsrc
    have HB := hide b37
    have HSW := hide hSw
    have HTW := hide hTw
    clear h30 hri hfr hsrc b37 H29 hnx hend hy' hE hSw hTw d33
    go_wp2_with (go_at_call 30; refine (unhide H30).mono ?_; rintro e w6 ⟨rfl, f6⟩; have q1 := (f6.same (w.heap.size + 1) (by simp; omega) (by omega)).trans ((Below.heap_alloc _ _ _ hz37).trans (unhide HB)); have q2 := (f6.same w4.heap.size (by simp) (by omega)).trans (heap_alloc_new w4 _); have u2 := fun j => cell_of_row w6 _ j _ 37 (0, 0) q2; have uf2 := fun j => frozen_rowE q2 j; have F6 := hide f6; have Q1 := hide q1; have Q2 := hide q2; clear f6 q1 q2)
    have p1' : (w6.setCell ⟨w4.heap.size, 0, none⟩ (.int .i64 E)).heap[w.heap.size + 1]? = some (.cells #[.int .i64 0, .int .i64 0, .int .i64 0, .int .i64 0, .int .i64 0, .int .i64 0, .int .i64 0] 37) := (Below.heap_setCell _ _ _ _ hne5).trans (unhide Q1)
    have p2' : (w6.setCell ⟨w4.heap.size, 0, none⟩ (.int .i64 E)).heap[w4.heap.size]? = some (.cells #[.int .i64 E, .int .i64 (s'.reg 0), .int .i64 (s'.reg 1), .int .i64 (s'.reg 2), .int .i64 (s'.reg 3), .int .i64 s'.clock, .int .i64 s'.heard] 37) := set3 (unhide Q2) 0 _
    have hf6 : Fr (fun k => k = w2.heap.size) w4 (w6.setCell ⟨w4.heap.size, 0, none⟩ (.int .i64 E)) (fun k => k = w2.heap.size) := (Fr.unalloc (unhide F6)).setCell _ _ (.inr (Nat.le_refl _))
    generalize hW7 : w6.setCell ⟨w4.heap.size, 0, none⟩ (.int .i64 E) = W7 at *
    clear hW7
    have v1 := fun j => cell_of_row W7 _ j _ 37 (0, 0) p1'
    have v2 := fun j => cell_of_row W7 _ j _ 37 (0, 0) p2'
    have vz := fun j => frozen_rowE p1' j
    have P1 := hide p1'
    have HF6 := hide hf6
    clear p1' p2' hf6 u2 uf2 Q1 Q2 F6 hv4
    go_region
    all_goals
      go_wp2
      have g0 := fun j => cell_of_row _ _ j _ 37 (0, 0) (out7 (unhide P1) (.int .i64 E) (.int .i64 (s'.reg 0)) (.int .i64 (s'.reg 1)) (.int .i64 (s'.reg 2)) (.int .i64 (s'.reg 3)) (.int .i64 s'.clock) (.int .i64 s'.heard))
      refine bodyPost_ret (v := .tuple #[vt, finV { s' with fin := E }, .int .i64 0]) (by simp [results, Tryz.results15, go_sem, g0, finV]) rfl ?_
      rw [← unhide HR]
      obtain ⟨g1, g2⟩ := rep_end (unhide HRI) (unhide HSRC) (unhide HFR) (unhide HF3) (unhide HF6) (unhide HSW) hz1 (by omega) hz4 (unhide HTW)
      refine ⟨(out7_fr g1 (.inr (by omega)) _ _ _ _ _ _ _).drew, 0, unhide HX, .inr (.inr ⟨rfl, hat, vt, rfl, ?_⟩)⟩
      refine ownsRow_of_block g2.1 (fun q hq => ?_)
      have hq' := g2.2 q hq
      rw [heap_drew, Below.heap_setCell _ _ _ _ hq', Below.heap_setCell _ _ _ _ hq', Below.heap_setCell _ _ _ _ hq', Below.heap_setCell _ _ _ _ hq', Below.heap_setCell _ _ _ _ hq', Below.heap_setCell _ _ _ _ hq', Below.heap_setCell _ _ _ _ hq']
  · have hxb : (x == 0) = false := by simpa using hx0
    go_wp2
    have g0 := fun j => cell_of_row _ _ j _ 37 (0, 0) (out7 (unhide B37) (.int .i64 0) (.int .i64 0) (.int .i64 0) (.int .i64 0) (.int .i64 0) (.int .i64 0) (.int .i64 0))
    refine bodyPost_ret (v := .tuple #[.slice none 0 0, zeroF, .int .i64 x]) (by simp [results, Tryz.results15, go_sem, g0, zeroF]) rfl ?_
    rw [← unhide HR]
    exact ⟨out7_fr (unhide HF1) (.inr (by omega)) _ _ _ _ _ _ _, x, unhide HX, .inl ⟨hx0, rfl⟩⟩
end Go.Proofs.YtfmbebofllgmoaaGreatDoor
