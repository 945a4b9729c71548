/-
  PROVED HERE: a list of inputs in memory, each with its files: nobody else's, and no two share room; it grows by one. the document's reader: what a body may come to. the document's reader, of a whole log. a replay's source answers what is next of a log (repAsk). a replay's source keeps its word (HearSpec over repAsk); New makes it of inputs; what is read of a log may be heard. the document's reader: bodies of clocks, of ends, of no kind. the document's reader: bodies of batches. the document's reader: bodies of picks. the document's reader: bodies of lots. the document's reader: the input of a body. the document's reader, for logs of up to a thousand million bytes.
-/
import Derived.Test.YtfmbebofllgmoaaGreatDoorProg
import Derived.WalkKit
import Derived.WalkSpells
import Derived.WalkLawsBesides
import Derived.Deep.QuietTactic
import Derived.BigQuiet
import Derived.Deep.RegionHeld3
import Derived.Deep.AppendLies
import Derived.Laws.EntriesVeiled
import Derived.Deep.DrawnRows
import Derived.BigRegion
import Derived.Deep.LoopGhost
import Derived.Deep.MidRow
import Derived.Shelf.SlSortCmp.SmallK
import Derived.Shelf.SlicesG.Cmp
import Derived.Shelf.Small.Bits
import Derived.Deep.RegionLaw
import Derived.Lib.SliceRun
import Derived.Laws.StructEq
import Derived.Laws.BytesString
import Derived.ArgAppend
import Derived.Deep.DeepCutAuto
import Derived.Conc.LoneCalls
import Derived.Calls
import Derived.Tactics
import Derived.KernelRfl
import Derived.Laws.Rows
import Derived.Lib.SlBytesConst
import Derived.Laws.BitsAllLaws
import Derived.RangeFuncOwn
import Derived.Laws.IdiomStrings
import Derived.RangeFuncNested
import Derived.RangeFuncBound
import Derived.RangeFuncCalls
import Derived.RangeFuncLeaves
import Derived.Test.YtfmbebofllgmoaaGreatDoorSreplaysat
import Derived.Test.YtfmbebofllgmoaaGreatDoorSreplaysaw
import Derived.Test.YtfmbebofllgmoaaGreatDoorSreplaysax
import Derived.Test.YtfmbebofllgmoaaGreatDoorSreplaysba
namespace Go.Proofs.YtfmbebofllgmoaaGreatDoor
open Go.RowKit

/-- The cells of inputs, each with the value of its files. -/
def flatP : List (Inp × Value) → List Value
  | [] => []
  | p :: r => .int .i64 p.1.1 :: .int .i64 p.1.2.1 :: .int .i64 p.1.2.2.1 :: p.2 :: flatP r
theorem flatP_append (a b : List (Inp × Value)) : flatP (a ++ b) = flatP a ++ flatP b := by
  induction a with
  | nil => rfl
  | cons x r ih => simp [flatP, ih]
/-- The blocks of such a list. -/
def inS (v : Value) (ps : List (Inp × Value)) (q : Nat) : Prop := own v q ∨ ∃ p, p ∈ ps ∧ own p.2 q
structure InsAt (W : World) (B : Nat) (v : Value) (ps : List (Inp × Value)) : Prop where
  row : W.ownsRow B 49 4 v ps.length (flatP ps)
  fl : ∀ p, p ∈ ps → OwnI W B p.2 (zs p.1.2.2.2)
  sep : ∀ p, p ∈ ps → ∀ q, own p.2 q → ¬ own v q
  dis : ps.Pairwise fun p p' => ∀ q, own p.2 q → ¬ own p'.2 q
theorem row_cells {W : World} {B e size n : Nat} {v : Value} {xs : List Value} (h : W.ownsRow B e size v n xs) {q : Nat} (hq : own v q) : ∃ cur, W.heap[q]? = some (.cells cur e (0, 0)) := by
  rcases h.2 with ⟨rfl, _⟩ | ⟨g, cap, cur, rfl, _, hg, _⟩
  · simp [own, Value.ownBlock] at hq
  · simp only [own, Value.ownBlock, Option.some.injEq] at hq
    subst hq
    exact ⟨cur, hg⟩
section
variable {W W' : World} {B : Nat} {v : Value} {ps : List (Inp × Value)}
theorem InsAt.lt (h : InsAt W B v ps) {q : Nat} (hq : inS v ps q) : B ≤ q ∧ q < W.heap.size := by
  rcases hq with hq | ⟨p, hp, hq⟩
  · exact World.ownsRow.lt h.row q hq
  · exact World.ownsRow.lt (h.fl p hp) q hq
theorem InsAt.isCells (h : InsAt W B v ps) {q : Nat} (hq : inS v ps q) : ∃ cur e, W.heap[q]? = some (.cells cur e (0, 0)) := by
  rcases hq with hq | ⟨p, hp, hq⟩
  · obtain ⟨cur, h1⟩ := row_cells h.row hq; exact ⟨cur, _, h1⟩
  · obtain ⟨cur, h1⟩ := row_cells (h.fl p hp) hq; exact ⟨cur, _, h1⟩
theorem InsAt.block (h : InsAt W B v ps) (hb : ∀ q, inS v ps q → W'.heap[q]? = W.heap[q]?) : InsAt W' B v ps :=
  ⟨ownsRow_of_block h.row (fun q hq => hb q (.inl hq)), fun p hp => ownsRow_of_block (h.fl p hp) (fun q hq => hb q (.inr ⟨p, hp, hq⟩)), h.sep, h.dis⟩
theorem InsAt.nil (W : World) (B : Nat) : InsAt W B (.slice none 0 0) [] :=
  ⟨World.ownsRow_nil _ _ _ _, fun _ h => absurd h (by simp), fun _ h => absurd h (by simp), List.Pairwise.nil⟩
theorem inS_nil (q : Nat) : ¬ inS (.slice none 0 0) [] q := by
  rintro (h | ⟨p, hp, _⟩)
  · simp [own, Value.ownBlock] at h
  · simp at hp
/-- One input is put behind. -/
theorem InsAt.grow (h : InsAt W B v ps) (x : Inp) (fv : Value) (hf : OwnI W B fv (zs x.2.2.2)) (hn : ∀ q, own fv q → ¬ inS v ps q) {w1 : World} {v' : Value} {tmp : Obj}
    (ho : w1.ownsRow B 49 4 v' (ps.length + 1) (flatP ps ++ [.int .i64 x.1, .int .i64 x.2.1, .int .i64 x.2.2.1, fv])) (hg : (W.alloc tmp).grownBy w1 v.ownBlock) (hat : v'.ownBlock = v.ownBlock ∨ v'.ownBlock = some (W.alloc tmp).heap.size) :
    InsAt w1 B v' (ps ++ [(x, fv)]) ∧ (∀ q, inS v' (ps ++ [(x, fv)]) q → inS v ps q ∨ own fv q ∨ W.heap.size ≤ q) := by
  have hv' : ∀ q, own v' q → own v q ∨ q = W.heap.size + 1 := by
    intro q hq
    rcases hat with e | e
    · left; unfold own at hq ⊢; rw [← e]; exact hq
    · right; unfold own at hq; rw [e] at hq; injection hq with hq; simp at hq; omega
  have same : ∀ q, q < W.heap.size → ¬ own v q → w1.heap[q]? = W.heap[q]? := fun q hq hn => (hg.block q (by simp; omega) (fun e => hn e.symm)).trans (Below.heap_alloc _ _ _ hq)
  refine ⟨⟨?_, ?_, ?_, ?_⟩, ?_⟩
  · rw [List.length_append, flatP_append]; exact ho
  · intro p hp
    rcases List.mem_append.1 hp with hp | hp
    · exact ownsRow_of_block (h.fl p hp) (fun q hq => same q (h.lt (.inr ⟨p, hp, hq⟩)).2 (h.sep p hp q hq))
    · rw [List.mem_singleton.1 hp]
      exact ownsRow_of_block hf (fun q hq => same q (World.ownsRow.lt hf q hq).2 (fun e => hn q hq (.inl e)))
  · intro p hp q hq hv
    rcases hv' q hv with e | e
    · rcases List.mem_append.1 hp with hp | hp
      · exact h.sep p hp q hq e
      · rw [List.mem_singleton.1 hp] at hq; exact hn q hq (.inl e)
    · rcases List.mem_append.1 hp with hp | hp
      · have := (h.lt (.inr ⟨p, hp, hq⟩)).2; omega
      · rw [List.mem_singleton.1 hp] at hq; have := (World.ownsRow.lt hf q hq).2; omega
  · refine List.pairwise_append.2 ⟨h.dis, List.pairwise_singleton _ _, ?_⟩
    intro p hp p' hp' q hq hq'
    rw [List.mem_singleton.1 hp'] at hq'
    exact hn q hq' (.inr ⟨p, hp, hq⟩)
  · rintro q (hq | ⟨p, hp, hq⟩)
    · rcases hv' q hq with e | e
      · exact .inl (.inl e)
      · exact .inr (.inr (by omega))
    · rcases List.mem_append.1 hp with hp | hp
      · exact .inl (.inr ⟨p, hp, hq⟩)
      · rw [List.mem_singleton.1 hp] at hq; exact .inr (.inl hq)
end

/-- A log's reader in memory: the variable that holds it, its log, how far it has come, and why it ends. -/
structure RdAt (W : World) (vb rb : Nat) (s : ByteArray) (a y : Int) : Prop where
  v : W.heap[vb]? = some (.cells #[.pointer (some ⟨rb, 0, none⟩)] 80)
  r : W.heap[rb]? = some (.cells #[.string s, .int .i64 a, .int .i64 y] 135)
theorem RdAt.ne {W : World} {vb rb : Nat} {s : ByteArray} {a y : Int} (h : RdAt W vb rb s a y) : vb ≠ rb := by
  intro e; have h1 := h.v; rw [e, h.r] at h1; cases h1
theorem RdAt.block {W W' : World} {vb rb : Nat} {s : ByteArray} {a y : Int} (h : RdAt W vb rb s a y) (h1 : W'.heap[vb]? = W.heap[vb]?) (h2 : W'.heap[rb]? = W.heap[rb]?) : RdAt W' vb rb s a y := ⟨h1.trans h.v, h2.trans h.r⟩
theorem set3 {W : World} {g e : Nat} {c : Array Value} (h : W.heap[g]? = some (.cells c e (0, 0))) (i : Nat) (x : Value) : (W.setCell ⟨g, i, none⟩ x).heap[g]? = some (.cells (c.setIfInBounds i x) e (0, 0)) := by
  have h0 := setRow_heap W g c (c.setIfInBounds i x) e (0, 0) h
  rwa [← setCell_eq_setRow W g i c e (0, 0) x h] at h0

/-- What a reading has come to: the inputs so far lie in a variable's row. -/
structure RdJ (w0 : World) (ib vb rb : Nat) (W : World) (ps : List (Inp × Value)) : Prop where
  fr : Fr (fun _ => False) w0 W (fun _ => False)
  box : ∃ v, W.heap[ib]? = some (.cells #[v] 44) ∧ InsAt W w0.heap.size v ps ∧ ¬ inS v ps ib ∧ ¬ inS v ps vb ∧ ¬ inS v ps rb
  ge : w0.heap.size ≤ ib ∧ w0.heap.size ≤ vb ∧ w0.heap.size ≤ rb
  ne : ib ≠ vb ∧ ib ≠ rb
theorem RdJ.block {w0 W W' : World} {ib vb rb : Nat} {ps : List (Inp × Value)} (h : RdJ w0 ib vb rb W ps) (hf : Fr (fun _ => False) w0 W' (fun _ => False)) (hb : ∀ q, w0.heap.size ≤ q → q < W.heap.size → q ≠ rb → q ≠ vb → (∃ c e, W.heap[q]? = some (.cells c e (0, 0))) → W'.heap[q]? = W.heap[q]?) : RdJ w0 ib vb rb W' ps := by
  obtain ⟨v, h1, h2, h3, h4, h5⟩ := h.box
  refine ⟨hf, ⟨v, ?_, h2.block (fun q hq => ?_), h3, h4, h5⟩, h.ge, h.ne⟩
  · rw [hb ib h.ge.1 (Array.getElem?_eq_some_iff.1 h1).1 h.ne.2 h.ne.1 ⟨_, _, h1⟩]; exact h1
  · obtain ⟨c, e, hc⟩ := h2.isCells hq
    exact hb q (h2.lt hq).1 (h2.lt hq).2 (fun e => h5 (e ▸ hq)) (fun e => h4 (e ▸ hq)) ⟨c, e, hc⟩
end Go.Proofs.YtfmbebofllgmoaaGreatDoor
namespace Go.Proofs.YtfmbebofllgmoaaGreatDoor
open Go.RowKit
attribute [local go_sem ↓] Go.wp_at_zero Go.wp_at_succ

theorem two_allocsD (h : Array Obj) (a b : Obj) : ((h.push a).push b)[h.size]? = some a ∧ ((h.push a).push b)[h.size + 1]? = some b := by
  refine ⟨?_, ?_⟩
  · rw [Array.getElem?_push, if_neg (by simp), Array.getElem?_push, if_pos (by simp)]
  · rw [Array.getElem?_push, if_pos (by simp)]
/-- What is made of a body. -/
def PdPost (s : ByteArray) (w : World) (e : Ending) (w' : World) : Prop :=
  Fr (fun _ => False) w w' (fun _ => False) ∧ match ipL (bs s) with
  | none => ∃ (a b c : Int) (fa : Option Addr) (fn fc : Nat), e = .returned (.tuple #[.agg #[.int .i64 a, .int .i64 b, .int .i64 c, .slice fa fn fc], .bool false])
  | some x => ∃ fv, e = .returned (.tuple #[.agg #[.int .i64 x.1, .int .i64 x.2.1, .int .i64 x.2.2.1, fv], .bool true]) ∧ IntsIn w' fv (zs x.2.2.2) (fun q => w.heap.size ≤ q ∧ q < w'.heap.size)
theorem pd_none {s : ByteArray} {w w' : World} {a b c : Int} {fa : Option Addr} {fn fc : Nat} (h : ipL (bs s) = none) (hf : Fr (fun _ => False) w w' (fun _ => False)) : PdPost s w (.returned (.tuple #[.agg #[.int .i64 a, .int .i64 b, .int .i64 c, .slice fa fn fc], .bool false])) w' := by
  unfold PdPost; rw [h]; exact ⟨hf, a, b, c, fa, fn, fc, rfl⟩
theorem pd_some {s : ByteArray} {w w' : World} {x : Inp} {fv : Value} (h : ipL (bs s) = some x) (hf : Fr (fun _ => False) w w' (fun _ => False)) (hi : IntsIn w' fv (zs x.2.2.2) (fun q => w.heap.size ≤ q ∧ q < w'.heap.size)) : PdPost s w (.returned (.tuple #[.agg #[.int .i64 x.1, .int .i64 x.2.1, .int .i64 x.2.2.1, fv], .bool true])) w' := by
  unfold PdPost; rw [h]; exact ⟨hf, fv, rfl, hi⟩
theorem str_ne {a b : ByteArray} (h : a ≠ b) : ¬ a.toList = b.toList := fun e => h (ByteArray.ext (Array.toList_inj.1 (by rw [Go.ByteArray.toList_eq, Go.ByteArray.toList_eq] at e; exact e)))
theorem cellOf_heap {W W' : World} {g j : Nat} (h : W'.heap[g]? = W.heap[g]?) : W'.cell? ⟨g, j, none⟩ = W.cell? ⟨g, j, none⟩ := by simp only [World.cell?, h]
theorem zs_getD (l : List Nat) (j : Nat) : (zs l).getD j 0 = ((l.getD j 0 : Nat) : Int) := by
  unfold zs
  rw [List.getD_eq_getElem?_getD, List.getD_eq_getElem?_getD, List.getElem?_map]
  cases l[j]? <;> rfl
theorem zs_back : ∀ (l : List Nat), (zs l).map Int.toNat = l
  | [] => rfl
  | x :: r => by
    have h := zs_back r
    show Int.toNat (Int.ofNat x) :: (zs r).map Int.toNat = _
    rw [h]; rfl
theorem setCell_row (W : World) (b j : Nat) (cur : Array Value) (e : Nat) (v : Value) (h : W.heap[b]? = some (.cells cur e (0, 0))) : (W.setCell ⟨b, j, none⟩ v).heap[b]? = some (.cells (cur.setIfInBounds j v) e (0, 0)) := by
  have h0 := setRow_heap W b _ (cur.setIfInBounds j v) e (0, 0) h
  rwa [← setCell_eq_setRow W b j _ e (0, 0) v h] at h0
end Go.Proofs.YtfmbebofllgmoaaGreatDoor
namespace Go.Proofs.YtfmbebofllgmoaaGreatDoor
open Go.RowKit
attribute [local go_sem ↓] Go.wp_at_zero Go.wp_at_succ

/-- Inputs in memory, their files wherever they lie. -/
structure DIns (W : World) (B : Nat) (v : Value) (ps : List (Inp × Value)) : Prop where
  row : W.ownsRow B 49 4 v ps.length (flatP ps)
  fl : ∀ p, p ∈ ps → IntsIn W p.2 (zs p.1.2.2.2) (fun q => B ≤ q ∧ q < W.heap.size ∧ ¬ own v q)
theorem DIns.nil (W : World) (B : Nat) : DIns W B (.slice none 0 0) [] := ⟨World.ownsRow_nil _ _ _ _, fun _ h => absurd h (by simp)⟩
theorem DIns.fr {W W' : World} {B : Nat} {v : Value} {ps : List (Inp × Value)} (h : DIns W B v ps) (hf : Fr (fun _ => False) W W' (fun _ => False)) : DIns W' B v ps :=
  ⟨ownsRow_of_block h.row (fun q hq => hf.same q (World.ownsRow.lt h.row q hq).2 (fun h => h)), fun p hp => intsIn_kept (h.fl p hp) (fun q hq => hf.same q hq.2.1 (fun h => h)) (fun _ hq => ⟨hq.1, Nat.lt_of_lt_of_le hq.2.1 hf.size, hq.2.2⟩)⟩
/-- One more. -/
theorem DIns.grow {W w1 : World} {B : Nat} {v v' : Value} {ps : List (Inp × Value)} (h : DIns W B v ps) (x : Inp) (fv : Value) (hi : IntsIn W fv (zs x.2.2.2) (fun q => B ≤ q ∧ q < W.heap.size ∧ ¬ own v q))
    (ho : w1.ownsRow B 49 4 v' (ps.length + 1) (flatP ps ++ [.int .i64 x.1, .int .i64 x.2.1, .int .i64 x.2.2.1, fv])) (hf : Fr (own v) W w1 (own v')) : DIns w1 B v' (ps ++ [(x, fv)]) := by
  have key : ∀ q, (B ≤ q ∧ q < W.heap.size ∧ ¬ own v q) → (B ≤ q ∧ q < w1.heap.size ∧ ¬ own v' q) := fun q hq => ⟨hq.1, Nat.lt_of_lt_of_le hq.2.1 hf.size, fun h => hq.2.2 (hf.old q hq.2.1 h)⟩
  refine ⟨?_, fun p hp => ?_⟩
  · rw [List.length_append, flatP_append]; exact ho
  · rcases List.mem_append.1 hp with hp | hp
    · exact intsIn_kept (h.fl p hp) (fun q hq => hf.same q hq.2.1 hq.2.2) key
    · rw [List.mem_singleton.1 hp]
      exact intsIn_kept hi (fun q hq => hf.same q hq.2.1 hq.2.2) key
theorem rd_inl (f : Nat) (l : List Nat) (a w : Nat) (h : rcL l = .inl w) : rdL (f + 1) l a = ([], a, w) := by simp only [rdL, h]
theorem rd_end (f : Nat) (l : List Nat) (a : Nat) (x : Inp) (k : Nat) (h : rcL l = .inr (x, k)) (h5 : x.1 = 5) : rdL (f + 1) l a = ([x], a + k, if l.drop k = [] then 1 else 5) := by
  simp only [rdL, h]; rw [if_pos h5]
/-- What comes of a log. -/
def RdPost (s : ByteArray) (w : World) (e : Ending) (w' : World) : Prop :=
  ∃ a c, ∃ ps : List (Inp × Value), e = .returned (.tuple #[.slice a ps.length c, .int .i64 (readL (bs s)).2.1, .int .i64 (readL (bs s)).2.2]) ∧ DIns w' w.heap.size (.slice a ps.length c) ps ∧ ps.map (·.1) = (readL (bs s)).1 ∧ Fr (fun _ => False) w w' (fun _ => False)
def DRel (s : ByteArray) (w : World) (u6 u7 : Value) (wr : World) : Prop :=
  ∃ (at_ f : Nat) (a : Option Addr) (c : Nat) (ps : List (Inp × Value)), u7 = .int .i64 at_ ∧ u6 = .slice a ps.length c ∧ 3 ≤ at_ ∧ at_ ≤ s.size ∧ 2 * ps.length ≤ at_ ∧ s.size < f + at_ ∧ DIns wr w.heap.size (.slice a ps.length c) ps ∧ Fr (fun _ => False) w wr (fun _ => False) ∧
    readL (bs s) = (ps.map (·.1) ++ (rdL f ((bs s).drop at_) at_).1, (rdL f ((bs s).drop at_) at_).2)
theorem rd_post {s : ByteArray} {w wr : World} {at_ f : Nat} {a : Option Addr} {c : Nat} {ps : List (Inp × Value)} {wy : Nat} (h : readL (bs s) = (ps.map (·.1) ++ (rdL f ((bs s).drop at_) at_).1, (rdL f ((bs s).drop at_) at_).2)) (hr : rdL f ((bs s).drop at_) at_ = ([], at_, wy)) (hi : DIns wr w.heap.size (.slice a ps.length c) ps) (hf : Fr (fun _ => False) w wr (fun _ => False)) :
    RdPost s w (.returned (.tuple #[.slice a ps.length c, .int .i64 (at_ : Nat), .int .i64 (wy : Nat)])) wr := by
  rw [hr, List.append_nil] at h
  exact ⟨a, c, ps, by rw [h], hi, by rw [h], hf⟩
theorem elemIn : Elem 44 49 4 48 := elem_of _ _ _ _ (.agg #[.int .i64 0, .int .i64 0, .int .i64 0, .slice none 0 0]) Tryz.underlying44 (by kernel_rfl) rfl

end Go.Proofs.YtfmbebofllgmoaaGreatDoor
namespace Go.Proofs.YtfmbebofllgmoaaGreatDoor
open Go.RowKit Go.Conc
attribute [local go_sem ↓] Go.wp_at_zero Go.wp_at_succ

theorem isEnd_any (k o n e : Int) (a : Option Addr) (l c : Nat) (w : World) : Calls Tryz.prog 56 #[.agg #[.int .i64 k, .int .i64 o, .int .i64 n, .slice a l c], .int .i64 e] w fun r w' => r = .returned (.bool (decide (k = 5 ∧ n = e))) ∧ Fr (fun _ => False) w w' (fun _ => False) := by
  by_cases hk : k = 5
  · subst hk
    by_cases hn : n = e
    · subst hn
      go_enter Tryz.func56, Tryz.ntmps56
      go_wp2
      go_ret
      exact ⟨by simp, (Fr.refl _ w).alloc _⟩
    · have hnb : (n == e) = false := by simpa using hn
      go_enter Tryz.func56, Tryz.ntmps56
      go_wp2
      go_ret
      exact ⟨by simp [hn], (Fr.refl _ w).alloc _⟩
  · have hkb : (k == 5) = false := by simpa using hk
    go_enter Tryz.func56, Tryz.ntmps56
    go_wp2
    go_ret
    exact ⟨by simp [hk], (Fr.refl _ w).alloc _⟩

/-- One operation that yields nothing. -/
theorem Rn.skip {P : Program} {b : Frame} {R : Ending → World → Prop} {k : List Item} {a : Act} {w : World} {ops : Array Oper} {i : Nat} {rest : List Nat} {o : Oper} {w' : World} (ho : ops[i]? = some o) (hw : Region.wanted o (yielded ops a.tmps) = true)
    (hr : (execOp a.eval o).run P w = .ok .skip w') (h : Rn P b R (.inRegion ops rest :: k) (a.put o.dst undef) w') : Rn P b R (.inRegion ops (i :: rest) :: k) a w :=
  .step (fun cs => by
    have hg := stepG_op (P := P) (b := b) (k := k) (cs := cs) (w := w) (rest := rest) ho hw
    have hfin : (b.at a (.inRegion ops (i :: rest) :: k)).finish undef = b.at (a.put o.dst undef) (.inRegion ops rest :: k) := by rw [Frame.finish_at, ho]; rfl
    refine step_lone_go ?_
    rw [hg, ← hfin]; simp [stepG.apply, hr]) h
/-- An input as a value. -/
def aggP (p : Inp × Value) : Value := .agg #[.int .i64 p.1.1, .int .i64 p.1.2.1, .int .i64 p.1.2.2.1, p.2]
theorem u39 (x y z : Value) : (#[x, y, z] ++ Array.replicate (39 - (#[x, y, z] : Array Value).size) undef) = (x :: y :: z :: List.replicate 36 undef).toArray := by simp
abbrev z49 : Obj := .cells #[.int .i64 0, .int .i64 0, .int .i64 0, .slice none 0 0] 49

set_option maxRecDepth 100000 in
set_option maxHeartbeats 2000000 in
theorem hearR_nil {w : World} {rb ch : Nat} (hs : w.cell? ⟨rb, 0, none⟩ = some (.chan (some ch))) (hsb : rb < w.heap.size) (hne : rb ≠ ch) (hc : ChanAt w ch []) (k o : Int) {R : Ending → World → Prop}
    (hR : ∀ w', Fr (fun k => k = ch) w w' (fun k => k = ch) → ChanAt w' ch [] → R (.returned (.tuple #[.agg #[.int .i64 0, .int .i64 0, .int .i64 0, .slice none 0 0], .int .i64 5])) w') :
    Calls Tryz.prog 180 #[.pointer (some ⟨rb, 0, none⟩), .int .i64 k, .int .i64 o] w R := by
  have HR := hide hR
  clear hR
  refine calls_of_rn Tryz.func180 rfl ?_
  rw [Tryz.ntmps180, u39]
  simp only [List.replicate]
  have hf1 := (Fr.refl (fun k => k = ch) w).alloc z49
  have hs1 : (w.alloc z49).cell? ⟨rb, 0, none⟩ = some (.chan (some ch)) := (hf1.cell rb 0 hsb hne).trans hs
  have hc1 : ChanAt (w.alloc z49) ch [] := hc.block (Below.heap_alloc _ _ _ hc.lt)
  have hrow := heap_alloc_new w z49
  have hw1 : w.heap.size ≠ ch := by have := hc.lt; omega
  have hz1 : w.heap.size < (w.alloc z49).heap.size := by simp
  have HF1 := hide hf1
  have HROW := hide hrow
  have HC1 := hide hc1
  clear hf1 hrow hc1 hc hs
  refine Rn.seq (Rn.go ?_)
  go_wp2
  generalize hW : w.alloc z49 = W1 at *
  clear hW
  refine exNo_normal (Rn.seq (Rn.region' [0, 1, 2, 3, 4, 5, 6, 7, 8, 9, 10] rfl ?_))
  refine Rn.op rfl rfl rfl ?_
  refine Rn.op rfl rfl rfl ?_
  refine Rn.op rfl rfl rfl ?_
  refine Rn.op (v := .chan (some ch)) (w' := W1) rfl rfl ?_ ?_
  · simp [execOp, Act.eval, Act.put, go_sem, hs1]
  refine Rn.take (c := ch) (z := .agg #[.int .i64 0, .int .i64 0, .int .i64 0, .slice none 0 0]) (vs := []) (by decide) rfl rfl ?_ (unhide HC1) ?_
  · simp [execOp, Act.eval, Act.put, go_sem, rcase]
  intro W2 f2 c2
  have C2 := hide c2
  have F2 := hide ((unhide HF1).trans f2)
  have HR2 := hide ((f2.same w.heap.size hz1 hw1).trans (unhide HROW))
  have hz2 := Nat.lt_of_lt_of_le hz1 f2.size
  clear c2 f2 HC1 HROW HF1 hs1
  simp only [Act.put]
  refine Rn.op (v := .tuple #[.agg #[.int .i64 0, .int .i64 0, .int .i64 0, .slice none 0 0], .bool false]) (w' := W2) rfl rfl (by simp [execOp, Act.eval, go_sem]) ?_
  simp only [Act.put]
  refine Rn.op (v := .agg #[.int .i64 0, .int .i64 0, .int .i64 0, .slice none 0 0]) (w' := W2) rfl rfl (by simp [execOp, Act.eval, go_sem]) ?_
  simp only [Act.put]
  refine Rn.op (v := .bool false) (w' := W2) rfl rfl (by simp [execOp, Act.eval, go_sem]) ?_
  simp only [Act.put]
  refine Rn.op (v := .pointer (some ⟨W2.heap.size, 0, none⟩)) (w' := W2.alloc z49) rfl rfl (by simp [execOp, go_sem]) ?_
  simp only [Act.put]
  refine Rn.skip (w' := W2.alloc (.cells #[.int .i64 0, .int .i64 0, .int .i64 0, .slice none 0 0] 49)) rfl rfl (by simp [execOp, Act.eval, go_sem]) ?_
  simp only [Act.put]
  refine Rn.op (v := .bool false) (w' := W2.alloc (.cells #[.int .i64 0, .int .i64 0, .int .i64 0, .slice none 0 0] 49)) rfl rfl (by simp [execOp, Act.eval, go_sem]) ?_
  simp only [Act.put]
  refine Rn.regionEnd ?_
  refine Rn.body rfl Tryz.func180 ?_
  have hrow := (Below.heap_alloc W2 z49 _ hz2).trans (unhide HR2)
  have hfa : Fr (fun _ => False) W2 (W2.alloc z49) (fun _ => False) := (Fr.refl _ _).alloc _
  generalize hW : W2.alloc z49 = W3 at *
  clear hW
  have hcell := fun j => cell_of_row W3 w.heap.size j _ 49 (0, 0) hrow
  have hfz := fun j => frozen_rowE hrow j
  have HFA := hide hfa
  clear hrow hfa
  go_wp2
  refine exRet_ret (bodyPost_ret (v := .tuple #[.agg #[.int .i64 0, .int .i64 0, .int .i64 0, .slice none 0 0], .int .i64 5]) (by simp [results, Tryz.results180, go_sem, hcell]) rfl ?_)
  exact unhide HR _ (outS (unhide F2) (unhide HFA) _ _ _ _) (outC (unhide F2) (unhide HFA) (unhide C2) hw1 _ _ _ _)
set_option maxRecDepth 100000 in
set_option maxHeartbeats 4000000 in
theorem hearR_cons {w : World} {rb ch : Nat} (hs : w.cell? ⟨rb, 0, none⟩ = some (.chan (some ch))) (hsb : rb < w.heap.size) (hne : rb ≠ ch) (k' o' n' : Int) (fa : Option Addr) (fl fc : Nat) (vs : List Value) (hc : ChanAt w ch (.agg #[.int .i64 k', .int .i64 o', .int .i64 n', .slice fa fl fc] :: vs)) (k o : Int) {R : Ending → World → Prop}
    (hR : ∀ w', Fr (fun k => k = ch) w w' (fun k => k = ch) → ChanAt w' ch vs → R (.returned (if k' = 5 ∧ n' = 5 then .tuple #[.agg #[.int .i64 0, .int .i64 0, .int .i64 0, .slice none 0 0], .int .i64 5] else if k' ≠ k ∨ o' ≠ o then .tuple #[.agg #[.int .i64 0, .int .i64 0, .int .i64 0, .slice none 0 0], .int .i64 6] else .tuple #[.agg #[.int .i64 k', .int .i64 o', .int .i64 n', .slice fa fl fc], .int .i64 0])) w') :
    Calls Tryz.prog 180 #[.pointer (some ⟨rb, 0, none⟩), .int .i64 k, .int .i64 o] w R := by
  have HR := hide hR
  clear hR
  refine calls_of_rn Tryz.func180 rfl ?_
  rw [Tryz.ntmps180, u39]
  simp only [List.replicate]
  have hf1 := (Fr.refl (fun k => k = ch) w).alloc z49
  have hs1 : (w.alloc z49).cell? ⟨rb, 0, none⟩ = some (.chan (some ch)) := (hf1.cell rb 0 hsb hne).trans hs
  have hc1 : ChanAt (w.alloc z49) ch (.agg #[.int .i64 k', .int .i64 o', .int .i64 n', .slice fa fl fc] :: vs) := hc.block (Below.heap_alloc _ _ _ hc.lt)
  have hrow := heap_alloc_new w z49
  have hw1 : w.heap.size ≠ ch := by have := hc.lt; omega
  have hz1 : w.heap.size < (w.alloc z49).heap.size := by simp
  have HF1 := hide hf1
  have HROW := hide hrow
  have HC1 := hide hc1
  clear hf1 hrow hc1 hc hs
  refine Rn.seq (Rn.go ?_)
  go_wp2
  generalize hW : w.alloc z49 = W1 at *
  clear hW
  refine exNo_normal (Rn.seq (Rn.region' [0, 1, 2, 3, 4, 5, 6, 7, 8, 9, 10] rfl ?_))
  refine Rn.op rfl rfl rfl ?_
  refine Rn.op rfl rfl rfl ?_
  refine Rn.op rfl rfl rfl ?_
  refine Rn.op (v := .chan (some ch)) (w' := W1) rfl rfl ?_ ?_
  · simp [execOp, Act.eval, Act.put, go_sem, hs1]
  refine Rn.take (c := ch) (z := .agg #[.int .i64 0, .int .i64 0, .int .i64 0, .slice none 0 0]) (vs := .agg #[.int .i64 k', .int .i64 o', .int .i64 n', .slice fa fl fc] :: vs) (by decide) rfl rfl ?_ (unhide HC1) ?_
  · simp [execOp, Act.eval, Act.put, go_sem, rcase]
  intro W2 f2 c2
  have C2 := hide (show ChanAt W2 ch vs from c2)
  have F2 := hide ((unhide HF1).trans f2)
  have HR2 := hide ((f2.same w.heap.size hz1 hw1).trans (unhide HROW))
  have hz2 := Nat.lt_of_lt_of_le hz1 f2.size
  clear c2 f2 HC1 HROW HF1 hs1
  simp only [Act.put]
  refine Rn.op (v := .tuple #[.agg #[.int .i64 k', .int .i64 o', .int .i64 n', .slice fa fl fc], .bool true]) (w' := W2) rfl rfl (by simp [execOp, Act.eval, go_sem]) ?_
  simp only [Act.put]
  refine Rn.op (v := .agg #[.int .i64 k', .int .i64 o', .int .i64 n', .slice fa fl fc]) (w' := W2) rfl rfl (by simp [execOp, Act.eval, go_sem]) ?_
  simp only [Act.put]
  refine Rn.op (v := .bool true) (w' := W2) rfl rfl (by simp [execOp, Act.eval, go_sem]) ?_
  simp only [Act.put]
  refine Rn.op (v := .pointer (some ⟨W2.heap.size, 0, none⟩)) (w' := W2.alloc z49) rfl rfl (by simp [execOp, go_sem]) ?_
  simp only [Act.put]
  refine Rn.skip (w' := W2.alloc (.cells #[.int .i64 k', .int .i64 o', .int .i64 n', .slice fa fl fc] 49)) rfl rfl (by simp [execOp, Act.eval, go_sem]) ?_
  simp only [Act.put]
  refine Rn.op (v := .bool true) (w' := W2.alloc (.cells #[.int .i64 k', .int .i64 o', .int .i64 n', .slice fa fl fc] 49)) rfl rfl (by simp [execOp, Act.eval, go_sem]) ?_
  simp only [Act.put]
  refine Rn.regionEnd ?_
  refine Rn.body rfl Tryz.func180 ?_
  have hrow8 := heap_alloc_new W2 (.cells #[.int .i64 k', .int .i64 o', .int .i64 n', .slice fa fl fc] 49)
  have hrow6 := (Below.heap_alloc W2 (.cells #[.int .i64 k', .int .i64 o', .int .i64 n', .slice fa fl fc] 49) _ hz2).trans (unhide HR2)
  have hfa : Fr (fun _ => False) W2 (W2.alloc (.cells #[.int .i64 k', .int .i64 o', .int .i64 n', .slice fa fl fc] 49)) (fun _ => False) := (Fr.refl _ _).alloc _
  generalize hW : W2.alloc (.cells #[.int .i64 k', .int .i64 o', .int .i64 n', .slice fa fl fc] 49) = W3 at *
  clear hW
  have g8 := fun j => cell_of_row W3 W2.heap.size j _ 49 (0, 0) hrow8
  have H8 := hide hrow8
  have H6 := hide hrow6
  have HFA := hide hfa
  have hl8 := (Array.getElem?_eq_some_iff.1 hrow8).1
  have hl6 := (Array.getElem?_eq_some_iff.1 hrow6).1
  clear hrow8 hrow6 hfa
  have H56 := hide (isEnd_any k' o' n' 5 fa fl fc W3)
  by_cases h5 : k' = 5 ∧ n' = 5
  · rw [if_pos h5] at HR
    simp only [decide_eq_true h5] at H56
    clear h5
    go_wp2_with (go_at_call 56; refine (unhide H56).mono ?_; rintro e W4 ⟨rfl, f4⟩; have r6 := (f4.same _ hl6 (fun h => h)).trans (unhide H6); have c6 := fun j => cell_of_row W4 _ j _ 49 (0, 0) r6; have z6 := fun j => frozen_rowE r6 j; have r8 := (f4.same _ hl8 (fun h => h)).trans (unhide H8); have c8 := fun j => cell_of_row W4 _ j _ 49 (0, 0) r8; have F4 := hide ((unhide HFA).trans f4); clear f4 r6 r8)
    refine exRet_ret (bodyPost_ret (v := .tuple #[.agg #[.int .i64 0, .int .i64 0, .int .i64 0, .slice none 0 0], .int .i64 5]) (by simp [results, Tryz.results180, go_sem, c6]) rfl ?_)
    exact unhide HR _ (outS (unhide F2) (unhide F4) _ _ _ _) (outC (unhide F2) (unhide F4) (unhide C2) hw1 _ _ _ _)
  · rw [if_neg h5] at HR
    simp only [decide_eq_false h5] at H56
    clear h5
    by_cases hk : k' = k
    · subst hk
      by_cases ho : o' = o
      · subst ho
        rw [if_neg (by simp)] at HR
        go_wp2_with (go_at_call 56; refine (unhide H56).mono ?_; rintro e W4 ⟨rfl, f4⟩; have r6 := (f4.same _ hl6 (fun h => h)).trans (unhide H6); have c6 := fun j => cell_of_row W4 _ j _ 49 (0, 0) r6; have z6 := fun j => frozen_rowE r6 j; have r8 := (f4.same _ hl8 (fun h => h)).trans (unhide H8); have c8 := fun j => cell_of_row W4 _ j _ 49 (0, 0) r8; have F4 := hide ((unhide HFA).trans f4); clear f4 r6 r8)
        refine exRet_ret (bodyPost_ret (v := .tuple #[.agg #[.int .i64 k', .int .i64 o', .int .i64 n', .slice fa fl fc], .int .i64 0]) (by simp [results, Tryz.results180, go_sem, c6]) rfl ?_)
        exact unhide HR _ (outS (unhide F2) (unhide F4) _ _ _ _) (outC (unhide F2) (unhide F4) (unhide C2) hw1 _ _ _ _)
      · rw [if_pos (.inr ho)] at HR
        have hob : (o' != o) = true := by simpa using ho
        go_wp2_with (go_at_call 56; refine (unhide H56).mono ?_; rintro e W4 ⟨rfl, f4⟩; have r6 := (f4.same _ hl6 (fun h => h)).trans (unhide H6); have c6 := fun j => cell_of_row W4 _ j _ 49 (0, 0) r6; have z6 := fun j => frozen_rowE r6 j; have r8 := (f4.same _ hl8 (fun h => h)).trans (unhide H8); have c8 := fun j => cell_of_row W4 _ j _ 49 (0, 0) r8; have F4 := hide ((unhide HFA).trans f4); clear f4 r6 r8)
        refine exRet_ret (bodyPost_ret (v := .tuple #[.agg #[.int .i64 0, .int .i64 0, .int .i64 0, .slice none 0 0], .int .i64 6]) (by simp [results, Tryz.results180, go_sem, c6]) rfl ?_)
        exact unhide HR _ (outS (unhide F2) (unhide F4) _ _ _ _) (outC (unhide F2) (unhide F4) (unhide C2) hw1 _ _ _ _)
    · rw [if_pos (.inl hk)] at HR
      have hkb : (k' != k) = true := by simpa using hk
      go_wp2_with (go_at_call 56; refine (unhide H56).mono ?_; rintro e W4 ⟨rfl, f4⟩; have r6 := (f4.same _ hl6 (fun h => h)).trans (unhide H6); have c6 := fun j => cell_of_row W4 _ j _ 49 (0, 0) r6; have z6 := fun j => frozen_rowE r6 j; have r8 := (f4.same _ hl8 (fun h => h)).trans (unhide H8); have c8 := fun j => cell_of_row W4 _ j _ 49 (0, 0) r8; have F4 := hide ((unhide HFA).trans f4); clear f4 r6 r8)
      refine exRet_ret (bodyPost_ret (v := .tuple #[.agg #[.int .i64 0, .int .i64 0, .int .i64 0, .slice none 0 0], .int .i64 6]) (by simp [results, Tryz.results180, go_sem, c6]) rfl ?_)
      exact unhide HR _ (outS (unhide F2) (unhide F4) _ _ _ _) (outC (unhide F2) (unhide F4) (unhide C2) hw1 _ _ _ _)
def nextV (x : Option (Int × Int × Int × Option Addr × Nat × Nat)) (vs : List Value) : List Value := match x with
  | none => []
  | some (k', o', n', fa, fl, fc) => .agg #[.int .i64 k', .int .i64 o', .int .i64 n', .slice fa fl fc] :: vs
def endX (own : Int) (x : Option (Int × Int × Int × Option Addr × Nat × Nat)) : Int := match x with
  | none => own
  | some (k', _, n', _) => if k' = 5 ∧ n' = own then own else 6
theorem u30 (x y : Value) : (#[x, y] ++ Array.replicate (30 - (#[x, y] : Array Value).size) undef) = (x :: y :: List.replicate 28 undef).toArray := by simp
set_option maxRecDepth 100000 in
set_option maxHeartbeats 4000000 in
/-- The end of a replay. -/
theorem end_any {w : World} {rb ch : Nat} (hs : w.cell? ⟨rb, 0, none⟩ = some (.chan (some ch))) (own : Int) (x : Option (Int × Int × Int × Option Addr × Nat × Nat)) (vs : List Value) (hc : ChanAt w ch (nextV x vs)) :
    Calls Tryz.prog 30 #[.pointer (some ⟨rb, 0, none⟩), .int .i64 own] w fun e w' => e = .returned (.int .i64 (if own = 5 ∨ own = 6 then own else endX own x)) ∧ Fr (fun k => k = ch) w w' (fun k => k = ch) := by
  by_cases h56 : own = 5 ∨ own = 6
  · simp only [if_pos h56]
    rcases h56 with rfl | rfl
    all_goals
      refine calls_of_rn Tryz.func30 rfl ?_
      rw [Tryz.ntmps30, u30]
      simp only [List.replicate]
      refine Rn.seq (Rn.go ?_)
      go_wp2
      refine exNo_normal (Rn.seq (Rn.body rfl Tryz.func30 ?_))
      go_wp2
      refine exRet_ret (bodyPost_ret (by simp [results, Tryz.results30, go_sem]) rfl ⟨rfl, Fr.refl _ _⟩)
  simp only [if_neg h56]
  have b5 : (own == 5) = false := by simp; omega
  have b6 : (own == 6) = false := by simp; omega
  have HC := hide hc
  clear hc
  refine calls_of_rn Tryz.func30 rfl ?_
  rw [Tryz.ntmps30, u30]
  simp only [List.replicate]
  refine Rn.seq (Rn.go ?_)
  go_wp2
  refine exNo_normal (Rn.seq (Rn.go ?_))
  go_wp2
  refine exNo_normal (Rn.seq (Rn.seq (Rn.region' [0, 1, 2, 3, 4, 5, 6, 7, 8, 9, 10] rfl ?_)))
  refine Rn.op rfl rfl rfl ?_
  refine Rn.op rfl rfl rfl ?_
  refine Rn.op rfl rfl rfl ?_
  refine Rn.op (v := .chan (some ch)) (w' := w) rfl rfl ?_ ?_
  · simp [execOp, Act.eval, Act.put, go_sem, hs]
  refine Rn.take (c := ch) (z := .agg #[.int .i64 0, .int .i64 0, .int .i64 0, .slice none 0 0]) (by decide) rfl rfl ?_ (unhide HC) ?_
  · simp [execOp, Act.eval, Act.put, go_sem, rcase]
  intro W2 f2 c2
  have F2 := hide f2
  clear c2 f2 HC
  simp only [Act.put]
  rcases x with _ | ⟨k', o', n', fa, fl, fc⟩
  · simp only [nextV, endX]
    refine Rn.op (v := .tuple #[.agg #[.int .i64 0, .int .i64 0, .int .i64 0, .slice none 0 0], .bool false]) (w' := W2) rfl rfl (by simp [execOp, Act.eval, go_sem]) ?_
    simp only [Act.put]
    refine Rn.op (v := .agg #[.int .i64 0, .int .i64 0, .int .i64 0, .slice none 0 0]) (w' := W2) rfl rfl (by simp [execOp, Act.eval, go_sem]) ?_
    simp only [Act.put]
    refine Rn.op (v := .bool false) (w' := W2) rfl rfl (by simp [execOp, Act.eval, go_sem]) ?_
    simp only [Act.put]
    refine Rn.op (v := .pointer (some ⟨W2.heap.size, 0, none⟩)) (w' := W2.alloc z49) rfl rfl (by simp [execOp, go_sem]) ?_
    simp only [Act.put]
    refine Rn.skip (w' := W2.alloc (.cells #[.int .i64 0, .int .i64 0, .int .i64 0, .slice none 0 0] 49)) rfl rfl (by simp [execOp, Act.eval, go_sem]) ?_
    simp only [Act.put]
    refine Rn.op (v := .bool false) (w' := W2.alloc (.cells #[.int .i64 0, .int .i64 0, .int .i64 0, .slice none 0 0] 49)) rfl rfl (by simp [execOp, Act.eval, go_sem]) ?_
    simp only [Act.put]
    refine Rn.regionEnd ?_
    refine Rn.go ?_
    go_wp2
    refine exNo_normal (Rn.body rfl Tryz.func30 ?_)
    go_wp2
    refine exRet_ret (bodyPost_ret (by simp [results, Tryz.results30, go_sem]) rfl ⟨rfl, (unhide F2).alloc _⟩)
  · simp only [nextV, endX]
    refine Rn.op (v := .tuple #[.agg #[.int .i64 k', .int .i64 o', .int .i64 n', .slice fa fl fc], .bool true]) (w' := W2) rfl rfl (by simp [execOp, Act.eval, go_sem]) ?_
    simp only [Act.put]
    refine Rn.op (v := .agg #[.int .i64 k', .int .i64 o', .int .i64 n', .slice fa fl fc]) (w' := W2) rfl rfl (by simp [execOp, Act.eval, go_sem]) ?_
    simp only [Act.put]
    refine Rn.op (v := .bool true) (w' := W2) rfl rfl (by simp [execOp, Act.eval, go_sem]) ?_
    simp only [Act.put]
    refine Rn.op (v := .pointer (some ⟨W2.heap.size, 0, none⟩)) (w' := W2.alloc z49) rfl rfl (by simp [execOp, go_sem]) ?_
    simp only [Act.put]
    refine Rn.skip (w' := W2.alloc (.cells #[.int .i64 k', .int .i64 o', .int .i64 n', .slice fa fl fc] 49)) rfl rfl (by simp [execOp, Act.eval, go_sem]) ?_
    simp only [Act.put]
    refine Rn.op (v := .bool true) (w' := W2.alloc (.cells #[.int .i64 k', .int .i64 o', .int .i64 n', .slice fa fl fc] 49)) rfl rfl (by simp [execOp, Act.eval, go_sem]) ?_
    simp only [Act.put]
    refine Rn.regionEnd ?_
    have hrow8 := heap_alloc_new W2 (.cells #[.int .i64 k', .int .i64 o', .int .i64 n', .slice fa fl fc] 49)
    have hfa : Fr (fun _ => False) W2 (W2.alloc (.cells #[.int .i64 k', .int .i64 o', .int .i64 n', .slice fa fl fc] 49)) (fun _ => False) := (Fr.refl _ _).alloc _
    generalize hW : W2.alloc (.cells #[.int .i64 k', .int .i64 o', .int .i64 n', .slice fa fl fc] 49) = W3 at *
    clear hW
    have g8 := fun j => cell_of_row W3 W2.heap.size j _ 49 (0, 0) hrow8
    have HFA := hide hfa
    clear hrow8 hfa
    have H56 := hide (isEnd_any k' o' n' own fa fl fc W3)
    by_cases h : k' = 5 ∧ n' = own
    · simp only [decide_eq_true h] at H56
      rw [if_pos h]
      clear h
      refine Rn.go ?_
      go_wp2_with (go_at_call 56; refine (unhide H56).mono ?_; rintro e W4 ⟨rfl, f4⟩; have F4 := hide ((unhide HFA).trans f4); clear f4)
      refine exNo_normal (Rn.body rfl Tryz.func30 ?_)
      go_wp2
      refine exRet_ret (bodyPost_ret (by simp [results, Tryz.results30, go_sem]) rfl ⟨rfl, (unhide F2).trans ((unhide F4).wide _)⟩)
    · simp only [decide_eq_false h] at H56
      rw [if_neg h]
      clear h
      refine Rn.body rfl Tryz.func30 ?_
      go_wp2_with (go_at_call 56; refine (unhide H56).mono ?_; rintro e W4 ⟨rfl, f4⟩; have F4 := hide ((unhide HFA).trans f4); clear f4)
      refine exRet_ret (bodyPost_ret (by simp [results, Tryz.results30, go_sem]) rfl ⟨rfl, (unhide F2).trans ((unhide F4).wide _)⟩)
end Go.Proofs.YtfmbebofllgmoaaGreatDoor
namespace Go.Proofs.YtfmbebofllgmoaaGreatDoor
open Go.RowKit

/-! ### What is read fits -/
theorem rcL_fit {l : List Nat} (hb : ∀ x, x ∈ l → x < 256) {x : Inp} {k : Nat} (h : rcL l = .inr (x, k)) : Fit x := by
  cases l with
  | nil => simp [rcL] at h
  | cons n t =>
    simp only [rcL] at h
    split at h
    · cases h
    split at h
    · cases h
    split at h
    · cases h
    split at h
    · cases h
    split at h
    · cases h
    · rename_i y hy
      injection h with h
      injection h with h1 h2
      subst h1
      exact ((ipL_iff _ (fun z hz => hb z (List.mem_cons_of_mem _ (List.mem_of_mem_take hz))) y).1 hy).1
theorem rdL_fit : ∀ (f : Nat) (l : List Nat) (a : Nat), (∀ x, x ∈ l → x < 256) → ∀ x, x ∈ (rdL f l a).1 → Fit x
  | 0, _, _, _, x, h => by simp [rdL] at h
  | f + 1, l, a, hb, x, h => by
    simp only [rdL] at h
    cases hr : rcL l with
    | inl w => rw [hr] at h; simp at h
    | inr q =>
      obtain ⟨y, k⟩ := q
      rw [hr] at h
      simp only at h
      split at h
      · rw [List.mem_singleton.1 h]; exact rcL_fit hb hr
      · rcases List.mem_cons.1 h with h | h
        · rw [h]; exact rcL_fit hb hr
        · exact rdL_fit f _ _ (fun z hz => hb z (List.mem_of_mem_drop hz)) x h
theorem readL_fit (s : ByteArray) : ∀ x, x ∈ (readL (bs s)).1 → Fit x := by
  intro x h
  unfold readL at h
  split at h
  · exact rdL_fit _ _ _ (fun z hz => bs_lt s z (List.mem_of_mem_drop hz)) x h
  · split at h <;> simp at h
/-- What a log may be heard as. -/
def rdV (s : ByteArray) : VL := ⟨(readL (bs s)).1, readL_fit s⟩

/-! ### The source in memory -/
structure RepAt (rb ch : Nat) (T : Nat → Prop) (w : World) (ps : List (Inp × Value)) : Prop where
  r : w.heap[rb]? = some (.cells #[.chan (some ch)] 118)
  c : ChanAt w ch (ps.map aggP)
  ne : rb ≠ ch
  inT : T rb ∧ T ch
  sh : ∀ p, p ∈ ps → ∃ a l c, p.2 = .slice a l c
  fl : ∀ p, p ∈ ps → IntsIn w p.2 (zs p.1.2.2.2) (fun q => own p.2 q ∧ T q)
  ow : ∀ p, p ∈ ps → ∀ q, own p.2 q → q ≠ rb ∧ q ≠ ch
  dis : ps.Pairwise fun p p' => ∀ q, own p.2 q → ¬ own p'.2 q
def RepA (rb ch : Nat) (T : Nat → Prop) (w : World) (y : VL) : Prop := ∃ ps, RepAt rb ch T w ps ∧ ps.map (·.1) = y.1
theorem repA_law (rb ch : Nat) : SrcLaw (RepA rb ch) := by
  constructor
  rintro S w w' y ⟨ps, h, e⟩ hs _
  exact ⟨ps, ⟨(hs rb h.inT.1).trans h.r, h.c.block (hs ch h.inT.2), h.ne, h.inT, h.sh, fun p hp => (h.fl p hp).block (fun q hq => hs q hq.2), h.ow, h.dis⟩, e⟩
theorem invoke_hearR : Hears 75 180 := fun a k o w => by kernel_rfl
theorem repA_hear {B : Nat} {may : Int → Int → Prop} (rb ch : Nat) : HearSpec (RepA rb ch) repAsk may B rb 75 180 := by
  refine ⟨invoke_hearR, ?_⟩
  rintro T w ⟨l, hl⟩ k o ⟨ps, h, e⟩ hT _
  change ps.map (·.1) = l at e
  have c0 : w.cell? ⟨rb, 0, none⟩ = some (.chan (some ch)) := cell_of_row _ _ 0 _ 118 (0, 0) h.r
  have frT : ∀ {w' : World} {T' : Nat → Prop}, Fr (fun k => k = ch) w w' (fun k => k = ch) → (∀ k, T' k → T k) → Fr T w w' T' := fun f ht => ⟨f.os, f.tape, f.output, f.size, fun k hk hn => f.same k hk (fun e => hn (e ▸ h.inT.2)), fun k _ h => ht k h⟩
  cases ps with
  | nil =>
    subst e
    refine hearR_nil c0 (hT rb h.inT.1) h.ne h.c k o ?_
    intro w' f c
    refine ⟨.slice none 0 0, T, rfl, ⟨[], ⟨(f.same rb (hT rb h.inT.1) h.ne).trans h.r, c, h.ne, h.inT, fun _ h => absurd h (by simp), fun _ h => absurd h (by simp), fun _ h => absurd h (by simp), List.Pairwise.nil⟩, rfl⟩, frT f (fun _ h => h), fun q hq => Nat.lt_of_lt_of_le (hT q hq) f.size, ints_nil _ _⟩
  | cons p r =>
    obtain ⟨⟨xk, xo, xn, xf⟩, v⟩ := p
    obtain ⟨fa, fl, fc, hv⟩ := h.sh _ (List.mem_cons_self ..)
    change v = _ at hv
    subst hv
    subst e
    obtain ⟨d1, d2⟩ := List.pairwise_cons.1 h.dis
    refine hearR_cons c0 (hT rb h.inT.1) h.ne xk xo xn fa fl fc (r.map aggP) h.c k o ?_
    intro w' f c
    have hsame : ∀ q, T q → q ≠ ch → w'.heap[q]? = w.heap[q]? := fun q hq hn => f.same q (hT q hq) hn
    have hrep : RepAt rb ch (fun q => T q ∧ ¬ own (.slice fa fl fc) q) w' r := by
      refine ⟨(hsame rb h.inT.1 h.ne).trans h.r, c, h.ne, ⟨⟨h.inT.1, fun ho => (h.ow _ (List.mem_cons_self ..) rb ho).1 rfl⟩, ⟨h.inT.2, fun ho => (h.ow _ (List.mem_cons_self ..) ch ho).2 rfl⟩⟩, fun p hp => h.sh p (List.mem_cons_of_mem _ hp), ?_, fun p hp => h.ow p (List.mem_cons_of_mem _ hp), d2⟩
      intro p hp
      refine intsIn_kept (h.fl p (List.mem_cons_of_mem _ hp)) (fun q hq => hsame q hq.2 (h.ow p (List.mem_cons_of_mem _ hp) q hq.1).2) (fun q hq => ⟨hq.1, hq.2, fun ho => d1 p hp q ho hq.1⟩)
    have hy : r.map (·.1) = (repAsk ⟨_, hl⟩ k o).2.1 := rfl
    have hb : ∀ q, T q ∧ ¬ own (.slice fa fl fc) q → q < w'.heap.size := fun q hq => Nat.lt_of_lt_of_le (hT q hq.1) f.size
    have key : ∀ fv, Value.tuple #[.agg #[.int .i64 (repR ((xk, xo, xn, xf) :: r.map (·.1)) k o).kind, .int .i64 (repR ((xk, xo, xn, xf) :: r.map (·.1)) k o).of, .int .i64 (repR ((xk, xo, xn, xf) :: r.map (·.1)) k o).n, fv], .int .i64 (repR ((xk, xo, xn, xf) :: r.map (·.1)) k o).e] = (if (xk : Int) = 5 ∧ (xn : Int) = 5 then .tuple #[.agg #[.int .i64 0, .int .i64 0, .int .i64 0, .slice none 0 0], .int .i64 5] else if (xk : Int) ≠ k ∨ (xo : Int) ≠ o then .tuple #[.agg #[.int .i64 0, .int .i64 0, .int .i64 0, .slice none 0 0], .int .i64 6] else .tuple #[.agg #[.int .i64 xk, .int .i64 xo, .int .i64 xn, .slice fa fl fc], .int .i64 0]) → IntsIn w' fv (repR ((xk, xo, xn, xf) :: r.map (·.1)) k o).files (fun q => (q < B ∨ w.heap.size ≤ q ∨ T q) ∧ q < w'.heap.size ∧ ¬ (T q ∧ ¬ own (.slice fa fl fc) q)) →
        ∃ fv T', Ending.returned (if (xk : Int) = 5 ∧ (xn : Int) = 5 then .tuple #[.agg #[.int .i64 0, .int .i64 0, .int .i64 0, .slice none 0 0], .int .i64 5] else if (xk : Int) ≠ k ∨ (xo : Int) ≠ o then .tuple #[.agg #[.int .i64 0, .int .i64 0, .int .i64 0, .slice none 0 0], .int .i64 6] else .tuple #[.agg #[.int .i64 xk, .int .i64 xo, .int .i64 xn, .slice fa fl fc], .int .i64 0]) = .returned (.tuple #[.agg #[.int .i64 (repR ((xk, xo, xn, xf) :: r.map (·.1)) k o).kind, .int .i64 (repR ((xk, xo, xn, xf) :: r.map (·.1)) k o).of, .int .i64 (repR ((xk, xo, xn, xf) :: r.map (·.1)) k o).n, fv], .int .i64 (repR ((xk, xo, xn, xf) :: r.map (·.1)) k o).e]) ∧
          RepA rb ch T' w' (repAsk ⟨(((xk, xo, xn, xf), Value.slice fa fl fc) :: r).map (·.1), hl⟩ k o).2 ∧ Fr T w w' T' ∧ (∀ q, T' q → q < w'.heap.size) ∧ IntsIn w' fv (repR ((xk, xo, xn, xf) :: r.map (·.1)) k o).files (fun q => (q < B ∨ w.heap.size ≤ q ∨ T q) ∧ q < w'.heap.size ∧ ¬ T' q) :=
      fun fv e1 e2 => ⟨fv, _, by rw [← e1], ⟨r, hrep, hy⟩, frT f (fun _ h => h.1), hb, e2⟩
    by_cases h5 : xk = 5 ∧ xn = 5
    · refine key (.slice none 0 0) ?_ ?_
      · simp only [repR]; rw [if_pos h5, if_pos (by omega)]; rfl
      · simp only [repR]; rw [if_pos h5]; exact ints_nil _ _
    · by_cases hk : (xk : Int) ≠ k ∨ (xo : Int) ≠ o
      · refine key (.slice none 0 0) ?_ ?_
        · simp only [repR]; rw [if_neg h5, if_pos hk, if_neg (by omega), if_pos hk]; rfl
        · simp only [repR]; rw [if_neg h5, if_pos hk]; exact ints_nil _ _
      · refine key (.slice fa fl fc) ?_ ?_
        · simp only [repR]; rw [if_neg h5, if_neg hk, if_neg (by omega), if_neg hk]; rfl
        · simp only [repR]; rw [if_neg h5, if_neg hk]
          have hf := h.fl _ (List.mem_cons_self ..)
          refine intsIn_kept hf (fun q hq => hsame q hq.2 (h.ow _ (List.mem_cons_self ..) q hq.1).2) (fun q hq => ⟨.inr (.inr hq.2), Nat.lt_of_lt_of_le (hT q hq.2) f.size, fun hn => hn.2 hq.1⟩)

/-! ### It is made -/
theorem flatP_get : ∀ (ps : List (Inp × Value)) (i : Nat) (p : Inp × Value), ps[i]? = some p → (flatP ps)[i * 4]? = some (.int .i64 p.1.1) ∧ (flatP ps)[i * 4 + 1]? = some (.int .i64 p.1.2.1) ∧ (flatP ps)[i * 4 + 2]? = some (.int .i64 p.1.2.2.1) ∧ (flatP ps)[i * 4 + 3]? = some p.2
  | [], i, p, h => by simp at h
  | x :: r, 0, p, h => by
    simp at h
    subst h
    exact ⟨rfl, rfl, rfl, rfl⟩
  | x :: r, i + 1, p, h => by
    have hr := flatP_get r i p (by simpa using h)
    have e : ∀ j, (flatP (x :: r))[(i + 1) * 4 + j]? = (flatP r)[i * 4 + j]? := fun j => by
      rw [show (i + 1) * 4 + j = (i * 4 + j) + 4 by omega]; rfl
    exact ⟨(e 0).trans hr.1, (e 1).trans hr.2.1, (e 2).trans hr.2.2.1, (e 3).trans hr.2.2.2⟩
theorem row_cell {W : World} {B e size n : Nat} {v : Value} {xs : List Value} (h : W.ownsRow B e size v n xs) (hn : 0 < n) : ∃ g c, v = .slice (some ⟨g, 0, none⟩) n c ∧ B ≤ g ∧ g < W.heap.size ∧ ∀ j u, xs[j]? = some u → W.cell? ⟨g, j, none⟩ = some u := by
  rcases h.2 with ⟨_, h0⟩ | ⟨g, cap, cur, hv, hB, hg, h1, h2, h3, h4⟩
  · omega
  · refine ⟨g, cap, hv, hB, (Array.getElem?_eq_some_iff.1 hg).1, fun j u hj => ?_⟩
    rw [cell_of_row W g j cur e (0, 0) hg]
    have hlt := (List.getElem?_eq_some_iff.1 hj).1
    rw [← h4, List.getElem?_take_of_lt (by rw [← h4, List.length_take] at hlt; omega)] at hj
    simpa using hj
theorem row_shapeP {W : World} {B e size n : Nat} {v : Value} {xs : List Value} (h : W.ownsRow B e size v n xs) : ∃ a c, v = .slice a n c := by
  rcases h.2 with ⟨h1, h0⟩ | ⟨g, cap, cur, hv, _⟩
  · exact ⟨none, 0, by rw [h0]; exact h1⟩
  · exact ⟨_, _, hv⟩
theorem newR_any {w : World} {B : Nat} {a : Option Addr} {n c : Nat} {ps : List (Inp × Value)} (h : InsAt w B (.slice a n c) ps) (hn : ps.length ≤ 2000000) :
    Calls Tryz.prog 28 #[.slice a n c] w fun e w' => ∃ rb, e = .returned (.pointer (some ⟨rb, 0, none⟩)) ∧ w.heap.size < rb ∧ w'.heap[rb]? = some (.cells #[.chan (some w.heap.size)] 118) ∧ ChanAt w' w.heap.size (ps.map aggP) ∧ Fr (fun _ => False) w w' (fun _ => False) := by
  obtain ⟨a', c', e⟩ := row_shapeP h.row
  have hl : n = ps.length := by cases e; rfl
  subst hl
  have h52 := filledP_any (w := w) a ps.length c (fun i => (ps.getD i ((0, 0, 0, []), .slice none 0 0)).1.1) (fun i => (ps.getD i ((0, 0, 0, []), .slice none 0 0)).1.2.1) (fun i => (ps.getD i ((0, 0, 0, []), .slice none 0 0)).1.2.2.1) (fun i => (ps.getD i ((0, 0, 0, []), .slice none 0 0)).2) hn (fun i hi => by
    obtain ⟨g, cc, hv, hB, hg, hcell⟩ := row_cell h.row (by omega)
    have e1 : ps[i]? = some (ps.getD i ((0, 0, 0, []), .slice none 0 0)) := by rw [List.getD_eq_getElem?_getD, List.getElem?_eq_getElem hi]; rfl
    obtain ⟨g0, g1, g2, g3⟩ := flatP_get ps i _ e1
    injection hv with hv
    exact ⟨g, hv, hg, hcell _ _ g0, hcell _ _ g1, hcell _ _ g2, hcell _ _ g3⟩) (fun i => by
    by_cases hi : i < ps.length
    · rw [List.getD_eq_getElem?_getD, List.getElem?_eq_getElem hi]
      exact ownI_shape (h.fl _ (List.getElem_mem hi))
    · rw [List.getD_eq_getElem?_getD, List.getElem?_eq_none (by omega)]
      exact ⟨_, _, _, rfl⟩)
  have hmap : (List.range ps.length).map (fun i => Value.agg #[.int .i64 ((ps.getD i ((0, 0, 0, []), .slice none 0 0)).1.1 : Nat), .int .i64 ((ps.getD i ((0, 0, 0, []), .slice none 0 0)).1.2.1 : Nat), .int .i64 ((ps.getD i ((0, 0, 0, []), .slice none 0 0)).1.2.2.1 : Nat), (ps.getD i ((0, 0, 0, []), .slice none 0 0)).2]) = ps.map aggP := by
    apply List.ext_getElem
    · simp
    · intro i h1 h2
      have hi : i < ps.length := by simpa using h2
      simp only [List.getElem_map, List.getElem_range, List.getD_eq_getElem?_getD, List.getElem?_eq_getElem hi, Option.getD_some]
      rfl
  rw [hmap] at h52
  have H52 := hide h52
  clear h52 hmap h
  go_enter Tryz.func28, Tryz.ntmps28
  go_wp2_with (go_at_call 52; refine (unhide H52).mono ?_; rintro e w1 ⟨rfl, f1, c1⟩; have F1 := hide f1; have C1 := hide c1; have L1 := hide (Array.getElem?_eq_some_iff.1 c1).1; clear f1 c1)
  go_ret
  have hlt := unhide L1
  exact ⟨w1.heap.size, rfl, hlt, heap_alloc_new _ _, ⟨_, _, _, (Below.heap_alloc _ _ _ hlt).trans (unhide C1)⟩, (unhide F1).alloc _⟩
end Go.Proofs.YtfmbebofllgmoaaGreatDoor
namespace Go.Proofs.YtfmbebofllgmoaaGreatDoor
open Go.RowKit
attribute [local go_sem ↓] Go.wp_at_zero Go.wp_at_succ

set_option maxHeartbeats 4000000 in
set_option maxRecDepth 20000 in
theorem parsed_k1 (s : ByteArray) (hs : s.size ≤ 100) (w : World) (h0 : 0 < s.size) (hkk : byteAt s 0 = 1) : Calls Tryz.prog 77 #[.string s] w (PdPost s w) := by
  obtain ⟨t0, t1⟩ := two_allocsD w.heap (.cells #[.int .i64 0, .int .i64 0, .int .i64 0, .slice none 0 0] 49) (.cells #[.int .i64 0, .int .i64 0, .int .i64 0, .slice none 0 0] 49)
  change ((w.alloc _).alloc _).heap[_]? = _ at t0 t1
  have hfw : Fr (fun _ => False) w ((w.alloc (.cells #[.int .i64 0, .int .i64 0, .int .i64 0, .slice none 0 0] 49)).alloc (.cells #[.int .i64 0, .int .i64 0, .int .i64 0, .slice none 0 0] 49)) (fun _ => False) := ((Fr.refl _ _).alloc _).alloc _
  have HFW := hide hfw
  · obtain ⟨r, hbs, hrl⟩ := bs_cons h0
    obtain ⟨W, hW⟩ : ∃ W, ((w.alloc (.cells #[.int .i64 0, .int .i64 0, .int .i64 0, .slice none 0 0] 49)).alloc (.cells #[.int .i64 0, .int .i64 0, .int .i64 0, .slice none 0 0] 49)) = W := ⟨_, rfl⟩
    have hb1 : bs (s.extract 1 s.size) = r := by rw [bs_extract, hbs]; rfl
    have hsz1 : (s.extract 1 s.size).size = r.length := by rw [← bs_len, hb1]
    have hnd : numsD (s.extract 1 s.size) = nsGo r.length r := by unfold numsD; rw [hb1, hsz1]
    have h111 := numbers_any (s.extract 1 s.size) (by omega) W
    have hbyte := byteAt_eq s 0 h0
    have hblt := byteAt_lt s 0
    obtain ⟨k, hk⟩ : ∃ k, byteAt s 0 = k := ⟨_, rfl⟩
    rw [hk] at hbs hbyte hblt hkk
    have HKK := hide hkk
    clear hkk
    rw [hW] at t0 t1 HFW
    have H111 := hide h111
    have HW := hide hW
    have T0 := hide t0
    have T1 := hide t1
    have HBS := hide hbs
    have HND := hide hnd
    have hi1 : (1 : Int) ≤ (s.size : Int) := by omega
    have hne := str_pos h0
    clear h111 hW t0 t1 hbs hnd hb1 hsz1 hrl
    go_enter Tryz.func77, Tryz.ntmps77
    go_wp2_with fail
    rw [unhide HW]
    go_at_call 111
    refine (unhide H111).mono ?_
    rintro e w1 ⟨f1, hm⟩
    rw [unhide HND] at hm
    have hf1 := (unhide HFW).trans f1
    have x0 := (f1.same _ (Array.getElem?_eq_some_iff.1 (unhide T0)).1 (fun h => h)).trans (unhide T0)
    have x1 := (f1.same _ (Array.getElem?_eq_some_iff.1 (unhide T1)).1 (fun h => h)).trans (unhide T1)
    have hz1 : w.heap.size + 1 < w1.heap.size := (Array.getElem?_eq_some_iff.1 x1).1
    have c0 := fun j => cell_of_row w1 _ j _ 49 (0, 0) x0
    have c1 := fun j => cell_of_row w1 _ j _ 49 (0, 0) x1
    have z0 := fun j => frozen_rowE x0 j
    have z1 := fun j => frozen_rowE x1 j
    have HF1 := hide hf1
    have X0 := hide x0
    have X1 := hide x1
    have HWW := hide f1.size
    have HWZ := hide (show W.heap.size = w.heap.size + 2 by rw [← unhide HW]; simp)
    clear f1 hf1 x0 x1 HFW T0 T1 H111
    cases hns : nsGo r.length r with
    | none =>
      rw [hns] at hm
      have hm' : e = .returned (.tuple #[.slice none 0 0, .bool false]) := hm
      subst hm'
      have hip := hide (parse_nums (unhide HBS) hns)
      clear hm hns
      go_wp2
      refine bodyPost_ret (v := .tuple #[.agg #[.int .i64 0, .int .i64 0, .int .i64 0, .slice none 0 0], .bool false]) (by simp [results, Tryz.results77, go_sem, c0]) rfl ?_
      refine pd_none (unhide hip) ?_
      repeat (first | exact unhide HF1 | refine Fr.setCell ?_ _ _ (.inr (Nat.le_refl _)))
    | some ns =>
      rw [hns] at hm
      obtain ⟨hnl, v, he, ho⟩ := hm
      have hnl : ns.length ≤ 200 := by have h : (s.extract 1 s.size).size ≤ s.size := by simp [ByteArray.size_extract]
                                       omega
      subst he
      obtain ⟨va, vc, rfl⟩ := ownI_slice ho
      rw [zs_len]
      rw [zs_len] at ho
      cases ns with
      | nil =>
        have hip := hide (parse_bad (unhide HBS) hns rfl)
        clear hns ho hnl
        go_wp2
        refine bodyPost_ret (v := .tuple #[.agg #[.int .i64 0, .int .i64 0, .int .i64 0, .slice none 0 0], .bool false]) (by simp [results, Tryz.results77, go_sem, c0]) rfl ?_
        refine pd_none (unhide hip) ?_
        repeat (first | exact unhide HF1 | refine Fr.setCell ?_ _ _ (.inr (Nat.le_refl _)))
      | cons a t =>
        obtain ⟨g, cap, cur, hv, hg1, hg2, hg3, hg4, hg5, hg6⟩ := ownI_parts ho (by simp [zs])
        injection hv with hv1 hv2 hv3
        subst hv1 hv3
        have hgz : g < w1.heap.size := (Array.getElem?_eq_some_iff.1 hg2).1
        have hg1' : w.heap.size + 1 < g := by have := unhide HWZ; omega
        have l0 : w1.cell? ⟨g, 0, none⟩ = some (.int .i64 (a : Nat)) := by have := hg6 0 (by simp [zs]); simpa [zs] using this
        have HG6 := hide hg6
        have HNS := hide hns
        have hlen : (a :: t).length = t.length + 1 := rfl
        rw [hlen]
        have htl : t.length ≤ 200 := by have : (a :: t).length ≤ 200 := by omega
                                        simpa using Nat.le_of_succ_le this
        have ht0 : (0 : Int) < (t.length : Int) + 1 := by omega
        have hkc : ((s[0]'h0).toNat : Int) = (k : Int) := by rw [hbyte]
        clear hg6 hg5 hg4 hg2 hns ho hv2 hlen hbyte
        have y1 := setCell_row w1 (w.heap.size + 1) 0 _ 49 (.int .i64 (k : Int)) (unhide X1)
        have y0 : (w1.setCell ⟨w.heap.size + 1, 0, none⟩ (.int .i64 (k : Int))).heap[w.heap.size]? = _ := (Below.heap_setCell w1 ⟨w.heap.size + 1, 0, none⟩ (.int .i64 (k : Int)) w.heap.size (by simp)).trans (unhide X0)
        have yl : (w1.setCell ⟨w.heap.size + 1, 0, none⟩ (.int .i64 (k : Int))).heap[g]? = w1.heap[g]? := Below.heap_setCell w1 ⟨w.heap.size + 1, 0, none⟩ (.int .i64 (k : Int)) g (by simp; omega)
        have hfy := (unhide HF1).setCell ⟨w.heap.size + 1, 0, none⟩ (.int .i64 (k : Int)) (.inr (by simp))
        have hyz : (w1.setCell ⟨w.heap.size + 1, 0, none⟩ (.int .i64 (k : Int))).heap.size = w1.heap.size := by simp [World.setCell]
        go_upto_region 9 with fail
        generalize hw2 : w1.setCell ⟨w.heap.size + 1, 0, none⟩ (.int .i64 (k : Int)) = w2 at *
        have lc : ∀ j, j < t.length + 1 → w2.cell? ⟨g, j, none⟩ = some (.int .i64 ((a :: t).getD j 0 : Nat)) := fun j hj => by
          rw [cellOf_heap yl]
          have h := unhide HG6 j (by rw [zs_len]; exact hj)
          rw [h, zs_getD]
        have c0 := fun j => cell_of_row w2 _ j _ 49 (0, 0) y0
        have c1 := fun j => cell_of_row w2 _ j _ 49 (0, 0) y1
        have z1 := fun j => frozen_rowE y1 j
        have z0 := fun j => frozen_rowE y0 j
        have l0 := lc 0 (by omega)
        have LC := hide lc
        have Y0 := hide y0
        have Y1 := hide y1
        have HFY := hide hfy
        have hz2 : w.heap.size + 1 < w2.heap.size := by omega
        have hg2 : g < w2.heap.size := by omega
        clear y0 y1 yl hfy hyz hw2 lc X0 X1 HF1 HG6 hz1 hgz hg1 HWW
        have hkk := unhide HKK
        subst hkk
        by_cases hr : a ≤ 1099511627776
        · have hri : (a : Int) ≤ 1099511627776 := by omega
          have hcd : candD 1 (a :: t) = some (1, 0, a, []) := by simp only [candD]; rw [if_pos trivial, if_pos hr]
          have hbd := fun W => body_one 1 0 a (.slice none 0 0) none 0 0 rfl (.inl rfl) (by omega) W
          go_upto_region 32 with fail
          have q1 := setCell_row w2 (w.heap.size + 1) 2 _ 49 (.int .i64 (a : Int)) (unhide Y1)
          have q0 : (w2.setCell ⟨w.heap.size + 1, 2, none⟩ (.int .i64 (a : Int))).heap[w.heap.size]? = _ := (Below.heap_setCell w2 ⟨w.heap.size + 1, 2, none⟩ (.int .i64 (a : Int)) w.heap.size (by simp)).trans (unhide Y0)
          have qf := (unhide HFY).setCell ⟨w.heap.size + 1, 2, none⟩ (.int .i64 (a : Int)) (.inr (by simp))
          generalize hw3 : w2.setCell ⟨w.heap.size + 1, 2, none⟩ (.int .i64 (a : Int)) = w3 at *
          have d0 := fun j => cell_of_row w3 _ j _ 49 (0, 0) q0
          have d1 := fun j => cell_of_row w3 _ j _ 49 (0, 0) q1
          have u0 := fun j => frozen_rowE q0 j
          have HFQ := hide qf
          have hz3 : w.heap.size + 1 < w3.heap.size := (Array.getElem?_eq_some_iff.1 q1).1
          clear c0 c1 z1 z0 q0 q1 qf hw3
          obtain ⟨B, hB⟩ : ∃ B, bodyS 1 0 a = B := ⟨_, rfl⟩
          have hpc := parse_cand (unhide HBS) (unhide HNS) hcd (b := B) (by rw [← hB]; exact bs_body1 1 0 a [] (.inl rfl))
          rw [hB] at hbd
          have HBD := hide hbd
          clear hbd hB
          by_cases hBs : B = s
          · have hip := hide (hpc.1 hBs)
            clear hpc
            subst hBs
            go_region_held3 (fun w' => w'.cell? ⟨w.heap.size + 1, 0, none⟩ = some (.int .i64 (1)) ∧ w'.cell? ⟨w.heap.size + 1, 1, none⟩ = some (.int .i64 (0)) ∧ w'.cell? ⟨w.heap.size + 1, 2, none⟩ = some (.int .i64 (a : Nat)) ∧ w'.cell? ⟨w.heap.size + 1, 3, none⟩ = some (.slice none 0 0)) (first | (simp [go_sem, d1]; done) | (simp [go_sem, g1]; done)) (first | (go_at_call 112; refine (unhide HBD _).mono ?_; rintro e w4 ⟨rfl, f4⟩; have g0 := fun j => (f4.cell w.heap.size j (by simp; omega) (fun h => h)).trans (d0 j); have g1 := fun j => (f4.cell (w.heap.size + 1) j (by simp; omega) (fun h => h)).trans (d1 j); have v0 := fun j => (f4.frozen w.heap.size j (by simp; omega) (fun h => h)).trans (u0 j); have HF4 := hide ((unhide HFQ).trans (show Fr (fun _ => False) w3 w4 (fun _ => False) from ⟨f4.os, f4.tape, f4.output, f4.size, f4.same, f4.old⟩)); clear f4))
            all_goals
              go_wp2_with fail
              refine bodyPost_ret (v := .tuple #[.agg #[.int .i64 (1), .int .i64 (0), .int .i64 (a : Nat), .slice none 0 0], .bool true]) (by simp [results, Tryz.results77, go_sem, g0]) rfl ?_
              refine pd_some (x := (1, 0, a, [])) (unhide hip) ?_ ?_
              · repeat (first | exact unhide HF4 | refine Fr.drew ?_ | refine Fr.setCell ?_ _ _ (.inr (Nat.le_refl _)))
              · exact ⟨none, 0, rfl, .inl rfl⟩
          · have hip := hide (hpc.2 hBs)
            have hbq := str_ne hBs
            clear hpc hBs
            go_region_held3 (fun w' => w'.cell? ⟨w.heap.size + 1, 0, none⟩ = some (.int .i64 (1)) ∧ w'.cell? ⟨w.heap.size + 1, 1, none⟩ = some (.int .i64 (0)) ∧ w'.cell? ⟨w.heap.size + 1, 2, none⟩ = some (.int .i64 (a : Nat)) ∧ w'.cell? ⟨w.heap.size + 1, 3, none⟩ = some (.slice none 0 0)) (first | (simp [go_sem, d1]; done) | (simp [go_sem, g1]; done)) (first | (go_at_call 112; refine (unhide HBD _).mono ?_; rintro e w4 ⟨rfl, f4⟩; have g0 := fun j => (f4.cell w.heap.size j (by simp; omega) (fun h => h)).trans (d0 j); have g1 := fun j => (f4.cell (w.heap.size + 1) j (by simp; omega) (fun h => h)).trans (d1 j); have v0 := fun j => (f4.frozen w.heap.size j (by simp; omega) (fun h => h)).trans (u0 j); have HF4 := hide ((unhide HFQ).trans (show Fr (fun _ => False) w3 w4 (fun _ => False) from ⟨f4.os, f4.tape, f4.output, f4.size, f4.same, f4.old⟩)); clear f4))
            all_goals
              go_wp2_with fail
              refine bodyPost_ret (v := .tuple #[.agg #[.int .i64 (1), .int .i64 (0), .int .i64 (a : Nat), .slice none 0 0], .bool false]) (by simp [results, Tryz.results77, go_sem, g0, hbq]) rfl ?_
              refine pd_none (unhide hip) ?_
              repeat (first | exact unhide HF4 | refine Fr.drew ?_ | refine Fr.setCell ?_ _ _ (.inr (Nat.le_refl _)))
        · have hri : ¬ (a : Int) ≤ 1099511627776 := by omega
          have HIP := hide (parse_bad (unhide HBS) (unhide HNS) (by simp only [candD]; rw [if_pos trivial, if_neg hr]))
          go_upto_region 32 with fail
          have q1 := setCell_row w2 (w.heap.size + 1) 2 _ 49 (.int .i64 (a : Int)) (unhide Y1)
          have q0 : (w2.setCell ⟨w.heap.size + 1, 2, none⟩ (.int .i64 (a : Int))).heap[w.heap.size]? = _ := (Below.heap_setCell w2 ⟨w.heap.size + 1, 2, none⟩ (.int .i64 (a : Int)) w.heap.size (by simp)).trans (unhide Y0)
          have qf := (unhide HFY).setCell ⟨w.heap.size + 1, 2, none⟩ (.int .i64 (a : Int)) (.inr (by simp))
          generalize hw3 : w2.setCell ⟨w.heap.size + 1, 2, none⟩ (.int .i64 (a : Int)) = w3 at *
          have d0 := fun j => cell_of_row w3 _ j _ 49 (0, 0) q0
          have d1 := fun j => cell_of_row w3 _ j _ 49 (0, 0) q1
          have u0 := fun j => frozen_rowE q0 j
          have HFQ := hide qf
          have hz3 : w.heap.size + 1 < w3.heap.size := (Array.getElem?_eq_some_iff.1 q1).1
          clear c0 c1 z1 z0 q0 q1 qf hw3
          go_region
          all_goals
            go_wp2_with fail
            refine bodyPost_ret (v := .tuple #[.agg #[.int .i64 (1), .int .i64 (0), .int .i64 (a : Nat), .slice none 0 0], .bool false]) (by simp [results, Tryz.results77, go_sem, d0]) rfl ?_
            refine pd_none (unhide HIP) ?_
            repeat (first | exact unhide HFQ | refine Fr.drew ?_ | refine Fr.setCell ?_ _ _ (.inr (Nat.le_refl _)))
set_option maxHeartbeats 4000000 in
set_option maxRecDepth 20000 in
theorem parsed_k5 (s : ByteArray) (hs : s.size ≤ 100) (w : World) (h0 : 0 < s.size) (hkk : byteAt s 0 = 5) : Calls Tryz.prog 77 #[.string s] w (PdPost s w) := by
  obtain ⟨t0, t1⟩ := two_allocsD w.heap (.cells #[.int .i64 0, .int .i64 0, .int .i64 0, .slice none 0 0] 49) (.cells #[.int .i64 0, .int .i64 0, .int .i64 0, .slice none 0 0] 49)
  change ((w.alloc _).alloc _).heap[_]? = _ at t0 t1
  have hfw : Fr (fun _ => False) w ((w.alloc (.cells #[.int .i64 0, .int .i64 0, .int .i64 0, .slice none 0 0] 49)).alloc (.cells #[.int .i64 0, .int .i64 0, .int .i64 0, .slice none 0 0] 49)) (fun _ => False) := ((Fr.refl _ _).alloc _).alloc _
  have HFW := hide hfw
  · obtain ⟨r, hbs, hrl⟩ := bs_cons h0
    obtain ⟨W, hW⟩ : ∃ W, ((w.alloc (.cells #[.int .i64 0, .int .i64 0, .int .i64 0, .slice none 0 0] 49)).alloc (.cells #[.int .i64 0, .int .i64 0, .int .i64 0, .slice none 0 0] 49)) = W := ⟨_, rfl⟩
    have hb1 : bs (s.extract 1 s.size) = r := by rw [bs_extract, hbs]; rfl
    have hsz1 : (s.extract 1 s.size).size = r.length := by rw [← bs_len, hb1]
    have hnd : numsD (s.extract 1 s.size) = nsGo r.length r := by unfold numsD; rw [hb1, hsz1]
    have h111 := numbers_any (s.extract 1 s.size) (by omega) W
    have hbyte := byteAt_eq s 0 h0
    have hblt := byteAt_lt s 0
    obtain ⟨k, hk⟩ : ∃ k, byteAt s 0 = k := ⟨_, rfl⟩
    rw [hk] at hbs hbyte hblt hkk
    have HKK := hide hkk
    clear hkk
    rw [hW] at t0 t1 HFW
    have H111 := hide h111
    have HW := hide hW
    have T0 := hide t0
    have T1 := hide t1
    have HBS := hide hbs
    have HND := hide hnd
    have hi1 : (1 : Int) ≤ (s.size : Int) := by omega
    have hne := str_pos h0
    clear h111 hW t0 t1 hbs hnd hb1 hsz1 hrl
    go_enter Tryz.func77, Tryz.ntmps77
    go_wp2_with fail
    rw [unhide HW]
    go_at_call 111
    refine (unhide H111).mono ?_
    rintro e w1 ⟨f1, hm⟩
    rw [unhide HND] at hm
    have hf1 := (unhide HFW).trans f1
    have x0 := (f1.same _ (Array.getElem?_eq_some_iff.1 (unhide T0)).1 (fun h => h)).trans (unhide T0)
    have x1 := (f1.same _ (Array.getElem?_eq_some_iff.1 (unhide T1)).1 (fun h => h)).trans (unhide T1)
    have hz1 : w.heap.size + 1 < w1.heap.size := (Array.getElem?_eq_some_iff.1 x1).1
    have c0 := fun j => cell_of_row w1 _ j _ 49 (0, 0) x0
    have c1 := fun j => cell_of_row w1 _ j _ 49 (0, 0) x1
    have z0 := fun j => frozen_rowE x0 j
    have z1 := fun j => frozen_rowE x1 j
    have HF1 := hide hf1
    have X0 := hide x0
    have X1 := hide x1
    have HWW := hide f1.size
    have HWZ := hide (show W.heap.size = w.heap.size + 2 by rw [← unhide HW]; simp)
    clear f1 hf1 x0 x1 HFW T0 T1 H111
    cases hns : nsGo r.length r with
    | none =>
      rw [hns] at hm
      have hm' : e = .returned (.tuple #[.slice none 0 0, .bool false]) := hm
      subst hm'
      have hip := hide (parse_nums (unhide HBS) hns)
      clear hm hns
      go_wp2
      refine bodyPost_ret (v := .tuple #[.agg #[.int .i64 0, .int .i64 0, .int .i64 0, .slice none 0 0], .bool false]) (by simp [results, Tryz.results77, go_sem, c0]) rfl ?_
      refine pd_none (unhide hip) ?_
      repeat (first | exact unhide HF1 | refine Fr.setCell ?_ _ _ (.inr (Nat.le_refl _)))
    | some ns =>
      rw [hns] at hm
      obtain ⟨hnl, v, he, ho⟩ := hm
      have hnl : ns.length ≤ 200 := by have h : (s.extract 1 s.size).size ≤ s.size := by simp [ByteArray.size_extract]
                                       omega
      subst he
      obtain ⟨va, vc, rfl⟩ := ownI_slice ho
      rw [zs_len]
      rw [zs_len] at ho
      cases ns with
      | nil =>
        have hip := hide (parse_bad (unhide HBS) hns rfl)
        clear hns ho hnl
        go_wp2
        refine bodyPost_ret (v := .tuple #[.agg #[.int .i64 0, .int .i64 0, .int .i64 0, .slice none 0 0], .bool false]) (by simp [results, Tryz.results77, go_sem, c0]) rfl ?_
        refine pd_none (unhide hip) ?_
        repeat (first | exact unhide HF1 | refine Fr.setCell ?_ _ _ (.inr (Nat.le_refl _)))
      | cons a t =>
        obtain ⟨g, cap, cur, hv, hg1, hg2, hg3, hg4, hg5, hg6⟩ := ownI_parts ho (by simp [zs])
        injection hv with hv1 hv2 hv3
        subst hv1 hv3
        have hgz : g < w1.heap.size := (Array.getElem?_eq_some_iff.1 hg2).1
        have hg1' : w.heap.size + 1 < g := by have := unhide HWZ; omega
        have l0 : w1.cell? ⟨g, 0, none⟩ = some (.int .i64 (a : Nat)) := by have := hg6 0 (by simp [zs]); simpa [zs] using this
        have HG6 := hide hg6
        have HNS := hide hns
        have hlen : (a :: t).length = t.length + 1 := rfl
        rw [hlen]
        have htl : t.length ≤ 200 := by have : (a :: t).length ≤ 200 := by omega
                                        simpa using Nat.le_of_succ_le this
        have ht0 : (0 : Int) < (t.length : Int) + 1 := by omega
        have hkc : ((s[0]'h0).toNat : Int) = (k : Int) := by rw [hbyte]
        clear hg6 hg5 hg4 hg2 hns ho hv2 hlen hbyte
        have y1 := setCell_row w1 (w.heap.size + 1) 0 _ 49 (.int .i64 (k : Int)) (unhide X1)
        have y0 : (w1.setCell ⟨w.heap.size + 1, 0, none⟩ (.int .i64 (k : Int))).heap[w.heap.size]? = _ := (Below.heap_setCell w1 ⟨w.heap.size + 1, 0, none⟩ (.int .i64 (k : Int)) w.heap.size (by simp)).trans (unhide X0)
        have yl : (w1.setCell ⟨w.heap.size + 1, 0, none⟩ (.int .i64 (k : Int))).heap[g]? = w1.heap[g]? := Below.heap_setCell w1 ⟨w.heap.size + 1, 0, none⟩ (.int .i64 (k : Int)) g (by simp; omega)
        have hfy := (unhide HF1).setCell ⟨w.heap.size + 1, 0, none⟩ (.int .i64 (k : Int)) (.inr (by simp))
        have hyz : (w1.setCell ⟨w.heap.size + 1, 0, none⟩ (.int .i64 (k : Int))).heap.size = w1.heap.size := by simp [World.setCell]
        go_upto_region 9 with fail
        generalize hw2 : w1.setCell ⟨w.heap.size + 1, 0, none⟩ (.int .i64 (k : Int)) = w2 at *
        have lc : ∀ j, j < t.length + 1 → w2.cell? ⟨g, j, none⟩ = some (.int .i64 ((a :: t).getD j 0 : Nat)) := fun j hj => by
          rw [cellOf_heap yl]
          have h := unhide HG6 j (by rw [zs_len]; exact hj)
          rw [h, zs_getD]
        have c0 := fun j => cell_of_row w2 _ j _ 49 (0, 0) y0
        have c1 := fun j => cell_of_row w2 _ j _ 49 (0, 0) y1
        have z1 := fun j => frozen_rowE y1 j
        have z0 := fun j => frozen_rowE y0 j
        have l0 := lc 0 (by omega)
        have LC := hide lc
        have Y0 := hide y0
        have Y1 := hide y1
        have HFY := hide hfy
        have hz2 : w.heap.size + 1 < w2.heap.size := by omega
        have hg2 : g < w2.heap.size := by omega
        clear y0 y1 yl hfy hyz hw2 lc X0 X1 HF1 HG6 hz1 hgz hg1 HWW
        have hkk := unhide HKK
        subst hkk
        by_cases h1 : 1 ≤ a
        · have h1i : (1 : Int) ≤ (a : Int) := by omega
          by_cases h5 : a ≤ 5
          · have hri : (a : Int) ≤ 5 := by omega
            have hcd : candD 5 (a :: t) = some (5, 0, a, []) := by simp only [candD]; rw [if_neg (by decide), if_neg (by decide), if_neg (by decide), if_neg (by decide), if_pos trivial, if_pos ⟨h1, h5⟩]
            have hbd := fun W => body_one 5 0 a (.slice none 0 0) none 0 0 rfl (.inr rfl) (by omega) W
            go_upto_region 32 with fail
            have q1 := setCell_row w2 (w.heap.size + 1) 2 _ 49 (.int .i64 (a : Int)) (unhide Y1)
            have q0 : (w2.setCell ⟨w.heap.size + 1, 2, none⟩ (.int .i64 (a : Int))).heap[w.heap.size]? = _ := (Below.heap_setCell w2 ⟨w.heap.size + 1, 2, none⟩ (.int .i64 (a : Int)) w.heap.size (by simp)).trans (unhide Y0)
            have qf := (unhide HFY).setCell ⟨w.heap.size + 1, 2, none⟩ (.int .i64 (a : Int)) (.inr (by simp))
            generalize hw3 : w2.setCell ⟨w.heap.size + 1, 2, none⟩ (.int .i64 (a : Int)) = w3 at *
            have d0 := fun j => cell_of_row w3 _ j _ 49 (0, 0) q0
            have d1 := fun j => cell_of_row w3 _ j _ 49 (0, 0) q1
            have u0 := fun j => frozen_rowE q0 j
            have HFQ := hide qf
            have hz3 : w.heap.size + 1 < w3.heap.size := (Array.getElem?_eq_some_iff.1 q1).1
            clear c0 c1 z1 z0 q0 q1 qf hw3
            obtain ⟨B, hB⟩ : ∃ B, bodyS 5 0 a = B := ⟨_, rfl⟩
            have hpc := parse_cand (unhide HBS) (unhide HNS) hcd (b := B) (by rw [← hB]; exact bs_body1 5 0 a [] (.inr rfl))
            rw [hB] at hbd
            have HBD := hide hbd
            clear hbd hB
            by_cases hBs : B = s
            · have hip := hide (hpc.1 hBs)
              clear hpc
              subst hBs
              go_region_held3 (fun w' => w'.cell? ⟨w.heap.size + 1, 0, none⟩ = some (.int .i64 (5)) ∧ w'.cell? ⟨w.heap.size + 1, 1, none⟩ = some (.int .i64 (0)) ∧ w'.cell? ⟨w.heap.size + 1, 2, none⟩ = some (.int .i64 (a : Nat)) ∧ w'.cell? ⟨w.heap.size + 1, 3, none⟩ = some (.slice none 0 0)) (first | (simp [go_sem, d1]; done) | (simp [go_sem, g1]; done)) (first | (go_at_call 112; refine (unhide HBD _).mono ?_; rintro e w4 ⟨rfl, f4⟩; have g0 := fun j => (f4.cell w.heap.size j (by simp; omega) (fun h => h)).trans (d0 j); have g1 := fun j => (f4.cell (w.heap.size + 1) j (by simp; omega) (fun h => h)).trans (d1 j); have v0 := fun j => (f4.frozen w.heap.size j (by simp; omega) (fun h => h)).trans (u0 j); have HF4 := hide ((unhide HFQ).trans (show Fr (fun _ => False) w3 w4 (fun _ => False) from ⟨f4.os, f4.tape, f4.output, f4.size, f4.same, f4.old⟩)); clear f4))
              all_goals
                go_wp2_with fail
                refine bodyPost_ret (v := .tuple #[.agg #[.int .i64 (5), .int .i64 (0), .int .i64 (a : Nat), .slice none 0 0], .bool true]) (by simp [results, Tryz.results77, go_sem, g0]) rfl ?_
                refine pd_some (x := (5, 0, a, [])) (unhide hip) ?_ ?_
                · repeat (first | exact unhide HF4 | refine Fr.drew ?_ | refine Fr.setCell ?_ _ _ (.inr (Nat.le_refl _)))
                · exact ⟨none, 0, rfl, .inl rfl⟩
            · have hip := hide (hpc.2 hBs)
              have hbq := str_ne hBs
              clear hpc hBs
              go_region_held3 (fun w' => w'.cell? ⟨w.heap.size + 1, 0, none⟩ = some (.int .i64 (5)) ∧ w'.cell? ⟨w.heap.size + 1, 1, none⟩ = some (.int .i64 (0)) ∧ w'.cell? ⟨w.heap.size + 1, 2, none⟩ = some (.int .i64 (a : Nat)) ∧ w'.cell? ⟨w.heap.size + 1, 3, none⟩ = some (.slice none 0 0)) (first | (simp [go_sem, d1]; done) | (simp [go_sem, g1]; done)) (first | (go_at_call 112; refine (unhide HBD _).mono ?_; rintro e w4 ⟨rfl, f4⟩; have g0 := fun j => (f4.cell w.heap.size j (by simp; omega) (fun h => h)).trans (d0 j); have g1 := fun j => (f4.cell (w.heap.size + 1) j (by simp; omega) (fun h => h)).trans (d1 j); have v0 := fun j => (f4.frozen w.heap.size j (by simp; omega) (fun h => h)).trans (u0 j); have HF4 := hide ((unhide HFQ).trans (show Fr (fun _ => False) w3 w4 (fun _ => False) from ⟨f4.os, f4.tape, f4.output, f4.size, f4.same, f4.old⟩)); clear f4))
              all_goals
                go_wp2_with fail
                refine bodyPost_ret (v := .tuple #[.agg #[.int .i64 (5), .int .i64 (0), .int .i64 (a : Nat), .slice none 0 0], .bool false]) (by simp [results, Tryz.results77, go_sem, g0, hbq]) rfl ?_
                refine pd_none (unhide hip) ?_
                repeat (first | exact unhide HF4 | refine Fr.drew ?_ | refine Fr.setCell ?_ _ _ (.inr (Nat.le_refl _)))
          · have hri : ¬ (a : Int) ≤ 5 := by omega
            have HIP := hide (parse_bad (unhide HBS) (unhide HNS) (by simp only [candD]; rw [if_neg (by decide), if_neg (by decide), if_neg (by decide), if_neg (by decide), if_pos trivial, if_neg (fun h => h5 h.2)]))
            go_upto_region 32 with fail
            have q1 := setCell_row w2 (w.heap.size + 1) 2 _ 49 (.int .i64 (a : Int)) (unhide Y1)
            have q0 : (w2.setCell ⟨w.heap.size + 1, 2, none⟩ (.int .i64 (a : Int))).heap[w.heap.size]? = _ := (Below.heap_setCell w2 ⟨w.heap.size + 1, 2, none⟩ (.int .i64 (a : Int)) w.heap.size (by simp)).trans (unhide Y0)
            have qf := (unhide HFY).setCell ⟨w.heap.size + 1, 2, none⟩ (.int .i64 (a : Int)) (.inr (by simp))
            generalize hw3 : w2.setCell ⟨w.heap.size + 1, 2, none⟩ (.int .i64 (a : Int)) = w3 at *
            have d0 := fun j => cell_of_row w3 _ j _ 49 (0, 0) q0
            have d1 := fun j => cell_of_row w3 _ j _ 49 (0, 0) q1
            have u0 := fun j => frozen_rowE q0 j
            have HFQ := hide qf
            have hz3 : w.heap.size + 1 < w3.heap.size := (Array.getElem?_eq_some_iff.1 q1).1
            clear c0 c1 z1 z0 q0 q1 qf hw3
            go_region
            all_goals
              go_wp2_with fail
              refine bodyPost_ret (v := .tuple #[.agg #[.int .i64 (5), .int .i64 (0), .int .i64 (a : Nat), .slice none 0 0], .bool false]) (by simp [results, Tryz.results77, go_sem, d0]) rfl ?_
              refine pd_none (unhide HIP) ?_
              repeat (first | exact unhide HFQ | refine Fr.drew ?_ | refine Fr.setCell ?_ _ _ (.inr (Nat.le_refl _)))
        · have h1i : ¬ (1 : Int) ≤ (a : Int) := by omega
          have HIP := hide (parse_bad (unhide HBS) (unhide HNS) (by simp only [candD]; rw [if_neg (by decide), if_neg (by decide), if_neg (by decide), if_neg (by decide), if_pos trivial, if_neg (fun h => h1 h.1)]))
          go_upto_region 32 with fail
          have q1 := setCell_row w2 (w.heap.size + 1) 2 _ 49 (.int .i64 (a : Int)) (unhide Y1)
          have q0 : (w2.setCell ⟨w.heap.size + 1, 2, none⟩ (.int .i64 (a : Int))).heap[w.heap.size]? = _ := (Below.heap_setCell w2 ⟨w.heap.size + 1, 2, none⟩ (.int .i64 (a : Int)) w.heap.size (by simp)).trans (unhide Y0)
          have qf := (unhide HFY).setCell ⟨w.heap.size + 1, 2, none⟩ (.int .i64 (a : Int)) (.inr (by simp))
          generalize hw3 : w2.setCell ⟨w.heap.size + 1, 2, none⟩ (.int .i64 (a : Int)) = w3 at *
          have d0 := fun j => cell_of_row w3 _ j _ 49 (0, 0) q0
          have d1 := fun j => cell_of_row w3 _ j _ 49 (0, 0) q1
          have u0 := fun j => frozen_rowE q0 j
          have HFQ := hide qf
          have hz3 : w.heap.size + 1 < w3.heap.size := (Array.getElem?_eq_some_iff.1 q1).1
          clear c0 c1 z1 z0 q0 q1 qf hw3
          go_region
          all_goals
            go_wp2_with fail
            refine bodyPost_ret (v := .tuple #[.agg #[.int .i64 (5), .int .i64 (0), .int .i64 (a : Nat), .slice none 0 0], .bool false]) (by simp [results, Tryz.results77, go_sem, d0]) rfl ?_
            refine pd_none (unhide HIP) ?_
            repeat (first | exact unhide HFQ | refine Fr.drew ?_ | refine Fr.setCell ?_ _ _ (.inr (Nat.le_refl _)))
set_option maxHeartbeats 4000000 in
set_option maxRecDepth 20000 in
theorem parsed_k0 (s : ByteArray) (hs : s.size ≤ 100) (w : World) (h0 : 0 < s.size) (hkk : byteAt s 0 ≠ 1 ∧ byteAt s 0 ≠ 2 ∧ byteAt s 0 ≠ 3 ∧ byteAt s 0 ≠ 4 ∧ byteAt s 0 ≠ 5) : Calls Tryz.prog 77 #[.string s] w (PdPost s w) := by
  obtain ⟨t0, t1⟩ := two_allocsD w.heap (.cells #[.int .i64 0, .int .i64 0, .int .i64 0, .slice none 0 0] 49) (.cells #[.int .i64 0, .int .i64 0, .int .i64 0, .slice none 0 0] 49)
  change ((w.alloc _).alloc _).heap[_]? = _ at t0 t1
  have hfw : Fr (fun _ => False) w ((w.alloc (.cells #[.int .i64 0, .int .i64 0, .int .i64 0, .slice none 0 0] 49)).alloc (.cells #[.int .i64 0, .int .i64 0, .int .i64 0, .slice none 0 0] 49)) (fun _ => False) := ((Fr.refl _ _).alloc _).alloc _
  have HFW := hide hfw
  · obtain ⟨r, hbs, hrl⟩ := bs_cons h0
    obtain ⟨W, hW⟩ : ∃ W, ((w.alloc (.cells #[.int .i64 0, .int .i64 0, .int .i64 0, .slice none 0 0] 49)).alloc (.cells #[.int .i64 0, .int .i64 0, .int .i64 0, .slice none 0 0] 49)) = W := ⟨_, rfl⟩
    have hb1 : bs (s.extract 1 s.size) = r := by rw [bs_extract, hbs]; rfl
    have hsz1 : (s.extract 1 s.size).size = r.length := by rw [← bs_len, hb1]
    have hnd : numsD (s.extract 1 s.size) = nsGo r.length r := by unfold numsD; rw [hb1, hsz1]
    have h111 := numbers_any (s.extract 1 s.size) (by omega) W
    have hbyte := byteAt_eq s 0 h0
    have hblt := byteAt_lt s 0
    obtain ⟨k, hk⟩ : ∃ k, byteAt s 0 = k := ⟨_, rfl⟩
    rw [hk] at hbs hbyte hblt hkk
    have HKK := hide hkk
    clear hkk
    rw [hW] at t0 t1 HFW
    have H111 := hide h111
    have HW := hide hW
    have T0 := hide t0
    have T1 := hide t1
    have HBS := hide hbs
    have HND := hide hnd
    have hi1 : (1 : Int) ≤ (s.size : Int) := by omega
    have hne := str_pos h0
    clear h111 hW t0 t1 hbs hnd hb1 hsz1 hrl
    go_enter Tryz.func77, Tryz.ntmps77
    go_wp2_with fail
    rw [unhide HW]
    go_at_call 111
    refine (unhide H111).mono ?_
    rintro e w1 ⟨f1, hm⟩
    rw [unhide HND] at hm
    have hf1 := (unhide HFW).trans f1
    have x0 := (f1.same _ (Array.getElem?_eq_some_iff.1 (unhide T0)).1 (fun h => h)).trans (unhide T0)
    have x1 := (f1.same _ (Array.getElem?_eq_some_iff.1 (unhide T1)).1 (fun h => h)).trans (unhide T1)
    have hz1 : w.heap.size + 1 < w1.heap.size := (Array.getElem?_eq_some_iff.1 x1).1
    have c0 := fun j => cell_of_row w1 _ j _ 49 (0, 0) x0
    have c1 := fun j => cell_of_row w1 _ j _ 49 (0, 0) x1
    have z0 := fun j => frozen_rowE x0 j
    have z1 := fun j => frozen_rowE x1 j
    have HF1 := hide hf1
    have X0 := hide x0
    have X1 := hide x1
    have HWW := hide f1.size
    have HWZ := hide (show W.heap.size = w.heap.size + 2 by rw [← unhide HW]; simp)
    clear f1 hf1 x0 x1 HFW T0 T1 H111
    cases hns : nsGo r.length r with
    | none =>
      rw [hns] at hm
      have hm' : e = .returned (.tuple #[.slice none 0 0, .bool false]) := hm
      subst hm'
      have hip := hide (parse_nums (unhide HBS) hns)
      clear hm hns
      go_wp2
      refine bodyPost_ret (v := .tuple #[.agg #[.int .i64 0, .int .i64 0, .int .i64 0, .slice none 0 0], .bool false]) (by simp [results, Tryz.results77, go_sem, c0]) rfl ?_
      refine pd_none (unhide hip) ?_
      repeat (first | exact unhide HF1 | refine Fr.setCell ?_ _ _ (.inr (Nat.le_refl _)))
    | some ns =>
      rw [hns] at hm
      obtain ⟨hnl, v, he, ho⟩ := hm
      have hnl : ns.length ≤ 200 := by have h : (s.extract 1 s.size).size ≤ s.size := by simp [ByteArray.size_extract]
                                       omega
      subst he
      obtain ⟨va, vc, rfl⟩ := ownI_slice ho
      rw [zs_len]
      rw [zs_len] at ho
      cases ns with
      | nil =>
        have hip := hide (parse_bad (unhide HBS) hns rfl)
        clear hns ho hnl
        go_wp2
        refine bodyPost_ret (v := .tuple #[.agg #[.int .i64 0, .int .i64 0, .int .i64 0, .slice none 0 0], .bool false]) (by simp [results, Tryz.results77, go_sem, c0]) rfl ?_
        refine pd_none (unhide hip) ?_
        repeat (first | exact unhide HF1 | refine Fr.setCell ?_ _ _ (.inr (Nat.le_refl _)))
      | cons a t =>
        obtain ⟨g, cap, cur, hv, hg1, hg2, hg3, hg4, hg5, hg6⟩ := ownI_parts ho (by simp [zs])
        injection hv with hv1 hv2 hv3
        subst hv1 hv3
        have hgz : g < w1.heap.size := (Array.getElem?_eq_some_iff.1 hg2).1
        have hg1' : w.heap.size + 1 < g := by have := unhide HWZ; omega
        have l0 : w1.cell? ⟨g, 0, none⟩ = some (.int .i64 (a : Nat)) := by have := hg6 0 (by simp [zs]); simpa [zs] using this
        have HG6 := hide hg6
        have HNS := hide hns
        have hlen : (a :: t).length = t.length + 1 := rfl
        rw [hlen]
        have htl : t.length ≤ 200 := by have : (a :: t).length ≤ 200 := by omega
                                        simpa using Nat.le_of_succ_le this
        have ht0 : (0 : Int) < (t.length : Int) + 1 := by omega
        have hkc : ((s[0]'h0).toNat : Int) = (k : Int) := by rw [hbyte]
        clear hg6 hg5 hg4 hg2 hns ho hv2 hlen hbyte
        have y1 := setCell_row w1 (w.heap.size + 1) 0 _ 49 (.int .i64 (k : Int)) (unhide X1)
        have y0 : (w1.setCell ⟨w.heap.size + 1, 0, none⟩ (.int .i64 (k : Int))).heap[w.heap.size]? = _ := (Below.heap_setCell w1 ⟨w.heap.size + 1, 0, none⟩ (.int .i64 (k : Int)) w.heap.size (by simp)).trans (unhide X0)
        have yl : (w1.setCell ⟨w.heap.size + 1, 0, none⟩ (.int .i64 (k : Int))).heap[g]? = w1.heap[g]? := Below.heap_setCell w1 ⟨w.heap.size + 1, 0, none⟩ (.int .i64 (k : Int)) g (by simp; omega)
        have hfy := (unhide HF1).setCell ⟨w.heap.size + 1, 0, none⟩ (.int .i64 (k : Int)) (.inr (by simp))
        have hyz : (w1.setCell ⟨w.heap.size + 1, 0, none⟩ (.int .i64 (k : Int))).heap.size = w1.heap.size := by simp [World.setCell]
        go_upto_region 9 with fail
        generalize hw2 : w1.setCell ⟨w.heap.size + 1, 0, none⟩ (.int .i64 (k : Int)) = w2 at *
        have lc : ∀ j, j < t.length + 1 → w2.cell? ⟨g, j, none⟩ = some (.int .i64 ((a :: t).getD j 0 : Nat)) := fun j hj => by
          rw [cellOf_heap yl]
          have h := unhide HG6 j (by rw [zs_len]; exact hj)
          rw [h, zs_getD]
        have c0 := fun j => cell_of_row w2 _ j _ 49 (0, 0) y0
        have c1 := fun j => cell_of_row w2 _ j _ 49 (0, 0) y1
        have z1 := fun j => frozen_rowE y1 j
        have z0 := fun j => frozen_rowE y0 j
        have l0 := lc 0 (by omega)
        have LC := hide lc
        have Y0 := hide y0
        have Y1 := hide y1
        have HFY := hide hfy
        have hz2 : w.heap.size + 1 < w2.heap.size := by omega
        have hg2 : g < w2.heap.size := by omega
        clear y0 y1 yl hfy hyz hw2 lc X0 X1 HF1 HG6 hz1 hgz hg1 HWW
        have hkk := unhide HKK
        have k1 : ((k : Int) == 1) = false := by simp; omega
        have k2 : ((k : Int) == 2) = false := by simp; omega
        have k3 : ((k : Int) == 3) = false := by simp; omega
        have k4 : ((k : Int) == 4) = false := by simp; omega
        have k5 : ((k : Int) == 5) = false := by simp; omega
        have HIP := hide (parse_bad (unhide HBS) (unhide HNS) (by simp only [candD]; rw [if_neg (by omega), if_neg (by omega), if_neg (by omega), if_neg (by omega), if_neg (by omega)]))
        go_upto_region 32 with fail
        have q1 := unhide Y1
        have q0 := unhide Y0
        have qf := unhide HFY
        obtain ⟨w3, hw3⟩ : ∃ w3, w2 = w3 := ⟨_, rfl⟩
        rw [hw3] at q0 q1 qf ⊢
        have d0 := fun j => cell_of_row w3 _ j _ 49 (0, 0) q0
        have d1 := fun j => cell_of_row w3 _ j _ 49 (0, 0) q1
        have u0 := fun j => frozen_rowE q0 j
        have HFQ := hide qf
        have hz3 : w.heap.size + 1 < w3.heap.size := (Array.getElem?_eq_some_iff.1 q1).1
        clear c0 c1 z1 z0 q0 q1 qf hw3
        go_region
        all_goals
          go_wp2_with fail
          refine bodyPost_ret (v := .tuple #[.agg #[.int .i64 (k : Nat), .int .i64 (0), .int .i64 (0), .slice none 0 0], .bool false]) (by simp [results, Tryz.results77, go_sem, d0]) rfl ?_
          refine pd_none (unhide HIP) ?_
          repeat (first | exact unhide HFQ | refine Fr.drew ?_ | refine Fr.setCell ?_ _ _ (.inr (Nat.le_refl _)))
end Go.Proofs.YtfmbebofllgmoaaGreatDoor
namespace Go.Proofs.YtfmbebofllgmoaaGreatDoor
open Go.RowKit
attribute [local go_sem ↓] Go.wp_at_zero Go.wp_at_succ

set_option maxHeartbeats 4000000 in
set_option maxRecDepth 20000 in
theorem parsed_k2 (s : ByteArray) (hs : s.size ≤ 100) (w : World) (h0 : 0 < s.size) (hkk : byteAt s 0 = 2) : Calls Tryz.prog 77 #[.string s] w (PdPost s w) := by
  obtain ⟨t0, t1⟩ := two_allocsD w.heap (.cells #[.int .i64 0, .int .i64 0, .int .i64 0, .slice none 0 0] 49) (.cells #[.int .i64 0, .int .i64 0, .int .i64 0, .slice none 0 0] 49)
  change ((w.alloc _).alloc _).heap[_]? = _ at t0 t1
  have hfw : Fr (fun _ => False) w ((w.alloc (.cells #[.int .i64 0, .int .i64 0, .int .i64 0, .slice none 0 0] 49)).alloc (.cells #[.int .i64 0, .int .i64 0, .int .i64 0, .slice none 0 0] 49)) (fun _ => False) := ((Fr.refl _ _).alloc _).alloc _
  have HFW := hide hfw
  · obtain ⟨r, hbs, hrl⟩ := bs_cons h0
    obtain ⟨W, hW⟩ : ∃ W, ((w.alloc (.cells #[.int .i64 0, .int .i64 0, .int .i64 0, .slice none 0 0] 49)).alloc (.cells #[.int .i64 0, .int .i64 0, .int .i64 0, .slice none 0 0] 49)) = W := ⟨_, rfl⟩
    have hb1 : bs (s.extract 1 s.size) = r := by rw [bs_extract, hbs]; rfl
    have hsz1 : (s.extract 1 s.size).size = r.length := by rw [← bs_len, hb1]
    have hnd : numsD (s.extract 1 s.size) = nsGo r.length r := by unfold numsD; rw [hb1, hsz1]
    have h111 := numbers_any (s.extract 1 s.size) (by omega) W
    have hbyte := byteAt_eq s 0 h0
    have hblt := byteAt_lt s 0
    obtain ⟨k, hk⟩ : ∃ k, byteAt s 0 = k := ⟨_, rfl⟩
    rw [hk] at hbs hbyte hblt hkk
    have HKK := hide hkk
    clear hkk
    rw [hW] at t0 t1 HFW
    have H111 := hide h111
    have HW := hide hW
    have T0 := hide t0
    have T1 := hide t1
    have HBS := hide hbs
    have HND := hide hnd
    have hi1 : (1 : Int) ≤ (s.size : Int) := by omega
    have hne := str_pos h0
    clear h111 hW t0 t1 hbs hnd hb1 hsz1 hrl
    go_enter Tryz.func77, Tryz.ntmps77
    go_wp2_with fail
    rw [unhide HW]
    go_at_call 111
    refine (unhide H111).mono ?_
    rintro e w1 ⟨f1, hm⟩
    rw [unhide HND] at hm
    have hf1 := (unhide HFW).trans f1
    have x0 := (f1.same _ (Array.getElem?_eq_some_iff.1 (unhide T0)).1 (fun h => h)).trans (unhide T0)
    have x1 := (f1.same _ (Array.getElem?_eq_some_iff.1 (unhide T1)).1 (fun h => h)).trans (unhide T1)
    have hz1 : w.heap.size + 1 < w1.heap.size := (Array.getElem?_eq_some_iff.1 x1).1
    have c0 := fun j => cell_of_row w1 _ j _ 49 (0, 0) x0
    have c1 := fun j => cell_of_row w1 _ j _ 49 (0, 0) x1
    have z0 := fun j => frozen_rowE x0 j
    have z1 := fun j => frozen_rowE x1 j
    have HF1 := hide hf1
    have X0 := hide x0
    have X1 := hide x1
    have HWW := hide f1.size
    have HWZ := hide (show W.heap.size = w.heap.size + 2 by rw [← unhide HW]; simp)
    clear f1 hf1 x0 x1 HFW T0 T1 H111
    cases hns : nsGo r.length r with
    | none =>
      rw [hns] at hm
      have hm' : e = .returned (.tuple #[.slice none 0 0, .bool false]) := hm
      subst hm'
      have hip := hide (parse_nums (unhide HBS) hns)
      clear hm hns
      go_wp2
      refine bodyPost_ret (v := .tuple #[.agg #[.int .i64 0, .int .i64 0, .int .i64 0, .slice none 0 0], .bool false]) (by simp [results, Tryz.results77, go_sem, c0]) rfl ?_
      refine pd_none (unhide hip) ?_
      repeat (first | exact unhide HF1 | refine Fr.setCell ?_ _ _ (.inr (Nat.le_refl _)))
    | some ns =>
      rw [hns] at hm
      obtain ⟨hnl, v, he, ho⟩ := hm
      have hnl : ns.length ≤ 200 := by have h : (s.extract 1 s.size).size ≤ s.size := by simp [ByteArray.size_extract]
                                       omega
      subst he
      obtain ⟨va, vc, rfl⟩ := ownI_slice ho
      rw [zs_len]
      rw [zs_len] at ho
      cases ns with
      | nil =>
        have hip := hide (parse_bad (unhide HBS) hns rfl)
        clear hns ho hnl
        go_wp2
        refine bodyPost_ret (v := .tuple #[.agg #[.int .i64 0, .int .i64 0, .int .i64 0, .slice none 0 0], .bool false]) (by simp [results, Tryz.results77, go_sem, c0]) rfl ?_
        refine pd_none (unhide hip) ?_
        repeat (first | exact unhide HF1 | refine Fr.setCell ?_ _ _ (.inr (Nat.le_refl _)))
      | cons a t =>
        obtain ⟨g, cap, cur, hv, hg1, hg2, hg3, hg4, hg5, hg6⟩ := ownI_parts ho (by simp [zs])
        injection hv with hv1 hv2 hv3
        subst hv1 hv3
        have hgz : g < w1.heap.size := (Array.getElem?_eq_some_iff.1 hg2).1
        have hg1' : w.heap.size + 1 < g := by have := unhide HWZ; omega
        have l0 : w1.cell? ⟨g, 0, none⟩ = some (.int .i64 (a : Nat)) := by have := hg6 0 (by simp [zs]); simpa [zs] using this
        have HG6 := hide hg6
        have HNS := hide hns
        have hlen : (a :: t).length = t.length + 1 := rfl
        rw [hlen]
        have htl : t.length ≤ 200 := by have : (a :: t).length ≤ 200 := by omega
                                        simpa using Nat.le_of_succ_le this
        have ht0 : (0 : Int) < (t.length : Int) + 1 := by omega
        have hkc : ((s[0]'h0).toNat : Int) = (k : Int) := by rw [hbyte]
        clear hg6 hg5 hg4 hg2 hns ho hv2 hlen hbyte
        have y1 := setCell_row w1 (w.heap.size + 1) 0 _ 49 (.int .i64 (k : Int)) (unhide X1)
        have y0 : (w1.setCell ⟨w.heap.size + 1, 0, none⟩ (.int .i64 (k : Int))).heap[w.heap.size]? = _ := (Below.heap_setCell w1 ⟨w.heap.size + 1, 0, none⟩ (.int .i64 (k : Int)) w.heap.size (by simp)).trans (unhide X0)
        have yl : (w1.setCell ⟨w.heap.size + 1, 0, none⟩ (.int .i64 (k : Int))).heap[g]? = w1.heap[g]? := Below.heap_setCell w1 ⟨w.heap.size + 1, 0, none⟩ (.int .i64 (k : Int)) g (by simp; omega)
        have hfy := (unhide HF1).setCell ⟨w.heap.size + 1, 0, none⟩ (.int .i64 (k : Int)) (.inr (by simp))
        have hyz : (w1.setCell ⟨w.heap.size + 1, 0, none⟩ (.int .i64 (k : Int))).heap.size = w1.heap.size := by simp [World.setCell]
        go_upto_region 9 with fail
        generalize hw2 : w1.setCell ⟨w.heap.size + 1, 0, none⟩ (.int .i64 (k : Int)) = w2 at *
        have lc : ∀ j, j < t.length + 1 → w2.cell? ⟨g, j, none⟩ = some (.int .i64 ((a :: t).getD j 0 : Nat)) := fun j hj => by
          rw [cellOf_heap yl]
          have h := unhide HG6 j (by rw [zs_len]; exact hj)
          rw [h, zs_getD]
        have c0 := fun j => cell_of_row w2 _ j _ 49 (0, 0) y0
        have c1 := fun j => cell_of_row w2 _ j _ 49 (0, 0) y1
        have z1 := fun j => frozen_rowE y1 j
        have z0 := fun j => frozen_rowE y0 j
        have l0 := lc 0 (by omega)
        have LC := hide lc
        have Y0 := hide y0
        have Y1 := hide y1
        have HFY := hide hfy
        have hz2 : w.heap.size + 1 < w2.heap.size := by omega
        have hg2 : g < w2.heap.size := by omega
        clear y0 y1 yl hfy hyz hw2 lc X0 X1 HF1 HG6 hz1 hgz hg1 HWW
        have hkk := unhide HKK
        subst hkk
        have hcap : t.length + 1 ≤ vc := by rw [zs_len] at hg3; exact hg3
        by_cases hv1 : vc = 1
        · have ht : t = [] := List.eq_nil_of_length_eq_zero (by omega)
          subst hv1 ht
          have q1 := setCell_row w2 (w.heap.size + 1) 3 _ 49 (.slice (some ⟨g, 0, none⟩) 0 0) (unhide Y1)
          have q0 : (w2.setCell ⟨w.heap.size + 1, 3, none⟩ (.slice (some ⟨g, 0, none⟩) 0 0)).heap[w.heap.size]? = _ := (Below.heap_setCell w2 ⟨w.heap.size + 1, 3, none⟩ (.slice (some ⟨g, 0, none⟩) 0 0) w.heap.size (by simp)).trans (unhide Y0)
          have qf := (unhide HFY).setCell ⟨w.heap.size + 1, 3, none⟩ (.slice (some ⟨g, 0, none⟩) 0 0) (.inr (by simp))
          go_wp2
          generalize hw5 : w2.setCell ⟨w.heap.size + 1, 3, none⟩ (.slice (some ⟨g, 0, none⟩) 0 0) = w5 at *
          have c5 := fun j => cell_of_row w5 _ j _ 49 (0, 0) q1
          have Q0 := hide q0
          have Q1 := hide q1
          have QF := hide qf
          clear q0 q1 qf hw5 c0 c1 z0 z1 l0 LC Y0 Y1 HFY hz2 hg2
          go_loopw [7, 8] (fun u7 u8 wr => u7 = .bool true ∧ u8 = .int .i64 0 ∧ wr = w5) (fun _ _ _ => 0)
          case atStart => exact ⟨rfl, rfl, rfl⟩
          case round =>
            obtain ⟨rfl, rfl, rfl⟩ := hrel
            have hcd : candD 2 [a] = some (2, 0, 0, []) := by simp only [candD]; rw [if_neg (by decide), if_pos trivial]; rfl
            have c0 := True.intro
            have c1 := c5
            have z1 := True.intro
            have z0 := True.intro
            clear c5
            have hbd := fun W => body_files 0 0 (.slice (some ⟨g, 0, none⟩) 0 0) [] (P := fun _ => False) W (fun _ h => h.elim) ⟨_, _, rfl, .inl rfl⟩ (by simp) (fun z hz => absurd hz (by simp))
            go_upto_region 32 with fail
            have q1 := unhide Q1
            have q0 := unhide Q0
            have qf := unhide QF
            obtain ⟨w3, hw3⟩ : ∃ w3, wr = w3 := ⟨_, rfl⟩
            rw [hw3] at q0 q1 qf ⊢
            have d0 := fun j => cell_of_row w3 _ j _ 49 (0, 0) q0
            have d1 := fun j => cell_of_row w3 _ j _ 49 (0, 0) q1
            have u0 := fun j => frozen_rowE q0 j
            have HFQ := hide qf
            have hz3 : w.heap.size + 1 < w3.heap.size := (Array.getElem?_eq_some_iff.1 q1).1
            clear c0 c1 z1 z0 q0 q1 qf hw3
            obtain ⟨B, hB⟩ : ∃ B, batchS [] = B := ⟨_, rfl⟩
            have hpc := parse_cand (unhide HBS) (unhide HNS) hcd (b := B) (by rw [← hB]; exact bs_batch [] 0 0)
            rw [hB] at hbd
            have HBD := hide hbd
            clear hbd hB
            by_cases hBs : B = s
            · have hip := hide (hpc.1 hBs)
              clear hpc
              subst hBs
              go_region_held3 (fun w' => w'.cell? ⟨w.heap.size + 1, 0, none⟩ = some (.int .i64 (2)) ∧ w'.cell? ⟨w.heap.size + 1, 1, none⟩ = some (.int .i64 (0)) ∧ w'.cell? ⟨w.heap.size + 1, 2, none⟩ = some (.int .i64 (0)) ∧ w'.cell? ⟨w.heap.size + 1, 3, none⟩ = some (.slice (some ⟨g, 0, none⟩) 0 0)) (first | (simp [go_sem, d1]; done) | (simp [go_sem, g1]; done)) (first | (go_at_call 112; refine (unhide HBD _).mono ?_; rintro e w4 ⟨rfl, f4⟩; have g0 := fun j => (f4.cell w.heap.size j (by simp; omega) (fun h => h)).trans (d0 j); have g1 := fun j => (f4.cell (w.heap.size + 1) j (by simp; omega) (fun h => h)).trans (d1 j); have v0 := fun j => (f4.frozen w.heap.size j (by simp; omega) (fun h => h)).trans (u0 j); have HF4 := hide ((unhide HFQ).trans (show Fr (fun _ => False) w3 w4 (fun _ => False) from ⟨f4.os, f4.tape, f4.output, f4.size, f4.same, f4.old⟩)); clear f4))
              all_goals
                go_wp2_with fail
                refine bodyPost_ret (v := .tuple #[.agg #[.int .i64 (2), .int .i64 (0), .int .i64 (0), .slice (some ⟨g, 0, none⟩) 0 0], .bool true]) (by simp [results, Tryz.results77, go_sem, g0]) rfl ?_
                refine pd_some (x := (2, 0, 0, [])) (unhide hip) ?_ ?_
                · repeat (first | exact unhide HF4 | refine Fr.drew ?_ | refine Fr.setCell ?_ _ _ (.inr (Nat.le_refl _)))
                · exact ⟨_, _, rfl, .inl rfl⟩
            · have hip := hide (hpc.2 hBs)
              have hbq := str_ne hBs
              clear hpc hBs
              go_region_held3 (fun w' => w'.cell? ⟨w.heap.size + 1, 0, none⟩ = some (.int .i64 (2)) ∧ w'.cell? ⟨w.heap.size + 1, 1, none⟩ = some (.int .i64 (0)) ∧ w'.cell? ⟨w.heap.size + 1, 2, none⟩ = some (.int .i64 (0)) ∧ w'.cell? ⟨w.heap.size + 1, 3, none⟩ = some (.slice (some ⟨g, 0, none⟩) 0 0)) (first | (simp [go_sem, d1]; done) | (simp [go_sem, g1]; done)) (first | (go_at_call 112; refine (unhide HBD _).mono ?_; rintro e w4 ⟨rfl, f4⟩; have g0 := fun j => (f4.cell w.heap.size j (by simp; omega) (fun h => h)).trans (d0 j); have g1 := fun j => (f4.cell (w.heap.size + 1) j (by simp; omega) (fun h => h)).trans (d1 j); have v0 := fun j => (f4.frozen w.heap.size j (by simp; omega) (fun h => h)).trans (u0 j); have HF4 := hide ((unhide HFQ).trans (show Fr (fun _ => False) w3 w4 (fun _ => False) from ⟨f4.os, f4.tape, f4.output, f4.size, f4.same, f4.old⟩)); clear f4))
              all_goals
                go_wp2_with fail
                refine bodyPost_ret (v := .tuple #[.agg #[.int .i64 (2), .int .i64 (0), .int .i64 (0), .slice (some ⟨g, 0, none⟩) 0 0], .bool false]) (by simp [results, Tryz.results77, go_sem, g0, hbq]) rfl ?_
                refine pd_none (unhide hip) ?_
                repeat (first | exact unhide HF4 | refine Fr.drew ?_ | refine Fr.setCell ?_ _ _ (.inr (Nat.le_refl _)))
        have hcap1 : (1 : Int) ≤ (t.length : Int) + 1 := by omega
        have hcap2 : (t.length : Int) + 1 ≤ (vc : Int) := by omega
        have q1 := setCell_row w2 (w.heap.size + 1) 3 _ 49 (.slice (some ⟨g, 1, none⟩) t.length (vc - 1)) (unhide Y1)
        have q0 : (w2.setCell ⟨w.heap.size + 1, 3, none⟩ (.slice (some ⟨g, 1, none⟩) t.length (vc - 1))).heap[w.heap.size]? = _ := (Below.heap_setCell w2 ⟨w.heap.size + 1, 3, none⟩ (.slice (some ⟨g, 1, none⟩) t.length (vc - 1)) w.heap.size (by simp)).trans (unhide Y0)
        have qg : (w2.setCell ⟨w.heap.size + 1, 3, none⟩ (.slice (some ⟨g, 1, none⟩) t.length (vc - 1))).heap[g]? = w2.heap[g]? := Below.heap_setCell w2 ⟨w.heap.size + 1, 3, none⟩ (.slice (some ⟨g, 1, none⟩) t.length (vc - 1)) g (by simp; omega)
        have qf := (unhide HFY).setCell ⟨w.heap.size + 1, 3, none⟩ (.slice (some ⟨g, 1, none⟩) t.length (vc - 1)) (.inr (by simp))
        go_wp2
        generalize hw5 : w2.setCell ⟨w.heap.size + 1, 3, none⟩ (.slice (some ⟨g, 1, none⟩) t.length (vc - 1)) = w5 at *
        have lc5 : ∀ j, j < t.length → w5.cell? ⟨g, 1 + j, none⟩ = some (.int .i64 (t.getD j 0 : Nat)) := fun j hj => by
          rw [cellOf_heap qg, unhide LC (1 + j) (by omega), Nat.add_comm 1 j, List.getD_cons_succ]
        have LC5 := hide lc5
        have Q0 := hide q0
        have Q1 := hide q1
        have QF := hide qf
        have hg5 : g < w5.heap.size := by
          have h1 := (Array.getElem?_eq_some_iff.1 (unhide Q1)).1
          have h2 : (w2.heap[g]?).isSome = true := by rw [Array.getElem?_eq_getElem hg2]; rfl
          rw [← qg] at h2
          obtain ⟨x, hx⟩ := Option.isSome_iff_exists.1 h2
          exact (Array.getElem?_eq_some_iff.1 hx).1
        clear q0 q1 qf qg hw5 lc5 c0 c1 z0 z1 l0 LC Y0 Y1 HFY hz2 hg2
        go_loopw [7, 8] (fun u7 u8 wr => ∃ i : Nat, i ≤ t.length ∧ u8 = .int .i64 i ∧ u7 = .bool (risL (-1) (zs (t.take i))) ∧ Dr w5 wr) (fun _ u8 _ => t.length - (intOf u8).toNat)
        case atStart => exact ⟨0, Nat.zero_le _, rfl, rfl, Dr.refl _⟩
        case round =>
          obtain ⟨i, hi, rfl, rfl, hd⟩ := hrel
          have c1 := fun j => (hd.cell ⟨w.heap.size + 1, j, none⟩).trans (cell_of_row w5 _ j _ 49 (0, 0) (unhide Q1))
          by_cases hlt : i < t.length
          · have e1 := (hd.cell ⟨g, 1 + i, none⟩).trans (unhide LC5 i hlt)
            have hsn : risL (-1) (zs (t.take (i + 1))) = (risL (-1) (zs (t.take i)) && decide (((t.getD i 0 : Nat) : Int) < 8) && decide ((((zs (t.take i)).getLast?).getD (-1)) < ((t.getD i 0 : Nat) : Int))) := by
              have e : t.take (i + 1) = t.take i ++ [t.getD i 0] := by rw [List.take_add_one, List.getD_eq_getElem?_getD, List.getElem?_eq_getElem hlt]; rfl
              rw [e, show zs (t.take i ++ [t.getD i 0]) = zs (t.take i) ++ [((t.getD i 0 : Nat) : Int)] by simp [zs], risL_snoc]
            have hgl : ∀ m, i = m + 1 → ((zs (t.take i)).getLast?).getD (-1) = ((t.getD m 0 : Nat) : Int) := fun m hm => by
              subst hm
              have e : t.take (m + 1) = t.take m ++ [t.getD m 0] := by rw [List.take_add_one, List.getD_eq_getElem?_getD, List.getElem?_eq_getElem (show m < t.length by omega)]; rfl
              rw [e, show zs (t.take m ++ [t.getD m 0]) = zs (t.take m) ++ [((t.getD m 0 : Nat) : Int)] by simp [zs]]
              simp
            have hk0 : (0 : Int) ≤ (i : Int) := by omega
            have hk1 : (i : Int) < (t.length : Int) := by omega
            have HSN := hide hsn
            have HGL := hide hgl
            have HD := hide hd
            clear hsn hgl hd
            cases hR : risL (-1) (zs (t.take i)) with
            | false =>
              have hsn : risL (-1) (zs (t.take (i + 1))) = false := by rw [unhide HSN, hR]; rfl
              have HS2 := hide hsn
              clear hsn hR
              go_wp2_with fail
              go_quiet (fail)
              go_wp2
              go_roundw
              case rel => exact ⟨i + 1, by omega, by go_num, by rw [unhide HS2], (unhide HD).more _⟩
              case measure => simp [intOf]; omega
            | true =>
              generalize hF : t.getD i 0 = F at *
              by_cases h8 : (F : Int) < 8
              · have h8d : decide ((F : Int) < 8) = true := by simpa using h8
                by_cases hi0 : i = 0
                · subst hi0
                  have hsn : risL (-1) (zs (t.take (0 + 1))) = true := by
                    rw [unhide HSN, hR, h8d]
                    have : decide ((((zs (t.take 0)).getLast?).getD (-1)) < (F : Int)) = true := by simp [zs]; omega
                    rw [this]; rfl
                  have HS2 := hide hsn
                  clear hsn hR h8
                  go_wp2_with fail
                  go_quiet (fail)
                  go_wp2
                  go_roundw
                  case rel => exact ⟨0 + 1, by omega, by go_num, by rw [unhide HS2], (unhide HD).more _⟩
                  case measure => simp [intOf]; omega
                · obtain ⟨p, hp⟩ : ∃ p, i = p + 1 := ⟨i - 1, by omega⟩
                  have e2 := ((unhide HD).cell ⟨g, 1 + p, none⟩).trans (unhide LC5 p (by omega))
                  have hgl := unhide HGL p hp
                  generalize hG : t.getD p 0 = G at *
                  have hz0 : ((i : Int) == 0) = false := by simpa using hi0
                  have hw1 : IntKind.i64.wrap ((i : Int) - 1) = (p : Int) := by rw [IntKind.wrap_i64]; omega
                  have hm0 : (0 : Int) ≤ (p : Int) := Int.natCast_nonneg p
                  have hm1 : (p : Int) < (t.length : Int) := Int.ofNat_lt.2 (by omega)
                  have HPI := hide hp
                  have HI0 := hide hi0
                  by_cases hgt : (G : Int) < (F : Int)
                  · have hgd : decide ((G : Int) < (F : Int)) = true := by simpa using hgt
                    have hsn : risL (-1) (zs (t.take (i + 1))) = true := by rw [unhide HSN, hR, h8d, hgl, hgd]; rfl
                    have HS2 := hide hsn
                    have HGN := hide (show decide (G < F) = true by simpa using hgt)
                    clear hsn hR h8 hgt hgl hp hi0 hG hF
                    go_wp2_with fail
                    go_quiet (fail)
                    go_wp2
                    go_roundw
                    case rel => exact ⟨i + 1, by omega, by go_num, by rw [unhide HS2]; first | rfl | exact congrArg Value.bool (unhide HGN), (unhide HD).more _⟩
                    case measure => simp [intOf]; omega
                  · have hgd : decide ((G : Int) < (F : Int)) = false := by simpa using hgt
                    have hsn : risL (-1) (zs (t.take (i + 1))) = false := by rw [unhide HSN, hR, h8d, hgl, hgd]; rfl
                    have HS2 := hide hsn
                    have HGN := hide (show decide (G < F) = false by simpa using hgt)
                    clear hsn hR h8 hgt hgl hp hi0 hG hF
                    go_wp2_with fail
                    go_quiet (fail)
                    go_wp2
                    go_roundw
                    case rel => exact ⟨i + 1, by omega, by go_num, by rw [unhide HS2]; first | rfl | exact congrArg Value.bool (unhide HGN), (unhide HD).more _⟩
                    case measure => simp [intOf]; omega
              · have h8d : decide ((F : Int) < 8) = false := by simpa using h8
                have hsn : risL (-1) (zs (t.take (i + 1))) = false := by rw [unhide HSN, hR, h8d]; rfl
                have HS2 := hide hsn
                clear hsn hR h8
                go_wp2_with fail
                go_quiet (fail)
                go_wp2
                go_roundw
                case rel => exact ⟨i + 1, by omega, by go_num, by rw [unhide HS2], (unhide HD).more _⟩
                case measure => simp [intOf]; omega
          · have hii : i = t.length := by omega
            subst hii
            have hk1 : ¬ (t.length : Int) < (t.length : Int) := by omega
            rw [List.take_length]
            have c0 := fun j => (hd.cell ⟨w.heap.size, j, none⟩).trans (cell_of_row w5 _ j _ 49 (0, 0) (unhide Q0))
            have z1 := True.intro
            have z0 := True.intro
            cases hR : risL (-1) (zs t) with
            | true =>
              have hcd : candD 2 (a :: t) = some (2, 0, 0, t) := by simp only [candD]; rw [if_neg (by decide), if_pos trivial, if_pos hR]
              go_upto_region 32 with fail
              have q1 : wr.heap[w.heap.size + 1]? = _ := (by obtain ⟨m, rfl⟩ := hd; exact unhide Q1)
              have q0 : wr.heap[w.heap.size]? = _ := (by obtain ⟨m, rfl⟩ := hd; exact unhide Q0)
              have qg : ∀ j, j < t.length → wr.cell? ⟨g, 1 + j, none⟩ = some (.int .i64 (t.getD j 0 : Nat)) := fun j hj => (hd.cell _).trans (unhide LC5 j hj)
              have qz : g < wr.heap.size := (by obtain ⟨m, rfl⟩ := hd; exact hg5)
              have qf : Fr (fun _ => False) w wr (fun _ => False) := (by obtain ⟨m, rfl⟩ := hd; exact (unhide QF).drewN m)
              obtain ⟨w3, hw3⟩ : ∃ w3, wr = w3 := ⟨_, rfl⟩
              rw [hw3] at q0 q1 qf qg qz ⊢
              have QG := hide qg
              have QZ := hide qz
              clear qg qz
              have d0 := fun j => cell_of_row w3 _ j _ 49 (0, 0) q0
              have d1 := fun j => cell_of_row w3 _ j _ 49 (0, 0) q1
              have u0 := fun j => frozen_rowE q0 j
              have HFQ := hide qf
              have hz3 : w.heap.size + 1 < w3.heap.size := (Array.getElem?_eq_some_iff.1 q1).1
              clear c0 c1 z1 z0 q0 q1 qf hw3
              have hi3 : IntsIn w3 (.slice (some ⟨g, 1, none⟩) t.length (vc - 1)) (zs t) (fun q => q = g) := ⟨_, _, by rw [zs_len], .inr ⟨g, 1, rfl, rfl, fun j hj => by rw [zs_len] at hj; rw [unhide QG j hj, zs_getD]⟩⟩
              have hbd : ∀ W, Fr (fun _ => False) w3 W (fun _ => False) → _ := fun W hW => body_files 0 0 (.slice (some ⟨g, 1, none⟩) t.length (vc - 1)) (zs t) (P := fun q => q = g) W (fun q hq => by subst hq; exact Nat.lt_of_lt_of_le (unhide QZ) hW.size) (hi3.block (fun q hq => by subst hq; exact hW.same _ (unhide QZ) (fun h => h))) (by have := (risL_len t (-1) (by omega) (by omega) hR).1; rw [zs_len]; omega) (fun z hz => by
                obtain ⟨f, hf, rfl⟩ := List.mem_map.1 hz
                have := (risL_len t (-1) (by omega) (by omega) hR).2 f hf
                exact ⟨Int.natCast_nonneg _, by show (f : Int) < 8; omega⟩)
              have HI3 := hide hi3
              clear hi3
              obtain ⟨B, hB⟩ : ∃ B, batchS (zs t) = B := ⟨_, rfl⟩
              have hpc := parse_cand (unhide HBS) (unhide HNS) hcd (b := B) (by rw [← hB]; exact (by rw [bs_batch (zs t) 0 0, zs_back]))
              simp only [hB] at hbd
              have HBD := hide hbd
              clear hbd hB
              by_cases hBs : B = s
              · have hip := hide (hpc.1 hBs)
                clear hpc
                subst hBs
                go_region_held3 (fun w' => w'.cell? ⟨w.heap.size + 1, 0, none⟩ = some (.int .i64 (2)) ∧ w'.cell? ⟨w.heap.size + 1, 1, none⟩ = some (.int .i64 (0)) ∧ w'.cell? ⟨w.heap.size + 1, 2, none⟩ = some (.int .i64 (0)) ∧ w'.cell? ⟨w.heap.size + 1, 3, none⟩ = some (.slice (some ⟨g, 1, none⟩) t.length (vc - 1))) (first | (simp [go_sem, d1]; done) | (simp [go_sem, g1]; done)) (first | (go_at_call 112; refine (unhide HBD _ (by first | exact Fr.refl _ _ | exact (Fr.refl _ _).drew)).mono ?_; rintro e w4 ⟨rfl, f4⟩; have g0 := fun j => (f4.cell w.heap.size j (by simp; omega) (fun h => h)).trans (d0 j); have g1 := fun j => (f4.cell (w.heap.size + 1) j (by simp; omega) (fun h => h)).trans (d1 j); have v0 := fun j => (f4.frozen w.heap.size j (by simp; omega) (fun h => h)).trans (u0 j); have I4 := hide ((unhide HI3).block (fun q hq => (by subst hq; exact f4.same _ (by have := unhide QZ; simp; omega) (fun h => h) : w4.heap[q]? = w3.heap[q]?))); have I5 := hide (show g < w4.heap.size from Nat.lt_of_lt_of_le (unhide QZ) f4.size); have HF4 := hide ((unhide HFQ).trans (show Fr (fun _ => False) w3 w4 (fun _ => False) from ⟨f4.os, f4.tape, f4.output, f4.size, f4.same, f4.old⟩)); clear f4))
                all_goals
                  go_wp2_with fail
                  refine bodyPost_ret (v := .tuple #[.agg #[.int .i64 (2), .int .i64 (0), .int .i64 (0), .slice (some ⟨g, 1, none⟩) t.length (vc - 1)], .bool true]) (by simp [results, Tryz.results77, go_sem, g0]) rfl ?_
                  refine pd_some (x := (2, 0, 0, t)) (unhide hip) ?_ ?_
                  · repeat (first | exact unhide HF4 | refine Fr.drew ?_ | refine Fr.setCell ?_ _ _ (.inr (Nat.le_refl _)))
                  · exact intsIn_kept (unhide I4) (fun q hq => by rw [show q = g from hq]; iterate 4 rw [Below.heap_setCell _ _ _ _ (by show g ≠ w.heap.size; omega)]) (fun q hq => ⟨by have h : q = g := hq; omega, by have h5 := unhide I5; rw [show q = g from hq]; simpa [World.setCell] using h5⟩)
              · have hip := hide (hpc.2 hBs)
                have hbq := str_ne hBs
                clear hpc hBs
                go_region_held3 (fun w' => w'.cell? ⟨w.heap.size + 1, 0, none⟩ = some (.int .i64 (2)) ∧ w'.cell? ⟨w.heap.size + 1, 1, none⟩ = some (.int .i64 (0)) ∧ w'.cell? ⟨w.heap.size + 1, 2, none⟩ = some (.int .i64 (0)) ∧ w'.cell? ⟨w.heap.size + 1, 3, none⟩ = some (.slice (some ⟨g, 1, none⟩) t.length (vc - 1))) (first | (simp [go_sem, d1]; done) | (simp [go_sem, g1]; done)) (first | (go_at_call 112; refine (unhide HBD _ (by first | exact Fr.refl _ _ | exact (Fr.refl _ _).drew)).mono ?_; rintro e w4 ⟨rfl, f4⟩; have g0 := fun j => (f4.cell w.heap.size j (by simp; omega) (fun h => h)).trans (d0 j); have g1 := fun j => (f4.cell (w.heap.size + 1) j (by simp; omega) (fun h => h)).trans (d1 j); have v0 := fun j => (f4.frozen w.heap.size j (by simp; omega) (fun h => h)).trans (u0 j); have I4 := hide ((unhide HI3).block (fun q hq => (by subst hq; exact f4.same _ (by have := unhide QZ; simp; omega) (fun h => h) : w4.heap[q]? = w3.heap[q]?))); have I5 := hide (show g < w4.heap.size from Nat.lt_of_lt_of_le (unhide QZ) f4.size); have HF4 := hide ((unhide HFQ).trans (show Fr (fun _ => False) w3 w4 (fun _ => False) from ⟨f4.os, f4.tape, f4.output, f4.size, f4.same, f4.old⟩)); clear f4))
                all_goals
                  go_wp2_with fail
                  refine bodyPost_ret (v := .tuple #[.agg #[.int .i64 (2), .int .i64 (0), .int .i64 (0), .slice (some ⟨g, 1, none⟩) t.length (vc - 1)], .bool false]) (by simp [results, Tryz.results77, go_sem, g0, hbq]) rfl ?_
                  refine pd_none (unhide hip) ?_
                  repeat (first | exact unhide HF4 | refine Fr.drew ?_ | refine Fr.setCell ?_ _ _ (.inr (Nat.le_refl _)))
            | false =>
              have HIP := hide (parse_bad (unhide HBS) (unhide HNS) (by simp only [candD]; rw [if_neg (by decide), if_pos trivial, if_neg (by rw [hR]; decide)]))
              go_upto_region 32 with fail
              have q1 : wr.heap[w.heap.size + 1]? = _ := (by obtain ⟨m, rfl⟩ := hd; exact unhide Q1)
              have q0 : wr.heap[w.heap.size]? = _ := (by obtain ⟨m, rfl⟩ := hd; exact unhide Q0)
              have qg : ∀ j, j < t.length → wr.cell? ⟨g, 1 + j, none⟩ = some (.int .i64 (t.getD j 0 : Nat)) := fun j hj => (hd.cell _).trans (unhide LC5 j hj)
              have qz : g < wr.heap.size := (by obtain ⟨m, rfl⟩ := hd; exact hg5)
              have qf : Fr (fun _ => False) w wr (fun _ => False) := (by obtain ⟨m, rfl⟩ := hd; exact (unhide QF).drewN m)
              obtain ⟨w3, hw3⟩ : ∃ w3, wr = w3 := ⟨_, rfl⟩
              rw [hw3] at q0 q1 qf qg qz ⊢
              have QG := hide qg
              have QZ := hide qz
              clear qg qz
              have d0 := fun j => cell_of_row w3 _ j _ 49 (0, 0) q0
              have d1 := fun j => cell_of_row w3 _ j _ 49 (0, 0) q1
              have u0 := fun j => frozen_rowE q0 j
              have HFQ := hide qf
              have hz3 : w.heap.size + 1 < w3.heap.size := (Array.getElem?_eq_some_iff.1 q1).1
              clear c0 c1 z1 z0 q0 q1 qf hw3
              go_region
              all_goals
                go_wp2_with fail
                refine bodyPost_ret (v := .tuple #[.agg #[.int .i64 (2), .int .i64 (0), .int .i64 (0), .slice (some ⟨g, 1, none⟩) t.length (vc - 1)], .bool false]) (by simp [results, Tryz.results77, go_sem, d0]) rfl ?_
                refine pd_none (unhide HIP) ?_
                repeat (first | exact unhide HFQ | refine Fr.drew ?_ | refine Fr.setCell ?_ _ _ (.inr (Nat.le_refl _)))
end Go.Proofs.YtfmbebofllgmoaaGreatDoor
namespace Go.Proofs.YtfmbebofllgmoaaGreatDoor
open Go.RowKit
attribute [local go_sem ↓] Go.wp_at_zero Go.wp_at_succ

set_option maxHeartbeats 4000000 in
set_option maxRecDepth 20000 in
theorem parsed_k3 (s : ByteArray) (hs : s.size ≤ 100) (w : World) (h0 : 0 < s.size) (hkk : byteAt s 0 = 3) : Calls Tryz.prog 77 #[.string s] w (PdPost s w) := by
  obtain ⟨t0, t1⟩ := two_allocsD w.heap (.cells #[.int .i64 0, .int .i64 0, .int .i64 0, .slice none 0 0] 49) (.cells #[.int .i64 0, .int .i64 0, .int .i64 0, .slice none 0 0] 49)
  change ((w.alloc _).alloc _).heap[_]? = _ at t0 t1
  have hfw : Fr (fun _ => False) w ((w.alloc (.cells #[.int .i64 0, .int .i64 0, .int .i64 0, .slice none 0 0] 49)).alloc (.cells #[.int .i64 0, .int .i64 0, .int .i64 0, .slice none 0 0] 49)) (fun _ => False) := ((Fr.refl _ _).alloc _).alloc _
  have HFW := hide hfw
  · obtain ⟨r, hbs, hrl⟩ := bs_cons h0
    obtain ⟨W, hW⟩ : ∃ W, ((w.alloc (.cells #[.int .i64 0, .int .i64 0, .int .i64 0, .slice none 0 0] 49)).alloc (.cells #[.int .i64 0, .int .i64 0, .int .i64 0, .slice none 0 0] 49)) = W := ⟨_, rfl⟩
    have hb1 : bs (s.extract 1 s.size) = r := by rw [bs_extract, hbs]; rfl
    have hsz1 : (s.extract 1 s.size).size = r.length := by rw [← bs_len, hb1]
    have hnd : numsD (s.extract 1 s.size) = nsGo r.length r := by unfold numsD; rw [hb1, hsz1]
    have h111 := numbers_any (s.extract 1 s.size) (by omega) W
    have hbyte := byteAt_eq s 0 h0
    have hblt := byteAt_lt s 0
    obtain ⟨k, hk⟩ : ∃ k, byteAt s 0 = k := ⟨_, rfl⟩
    rw [hk] at hbs hbyte hblt hkk
    have HKK := hide hkk
    clear hkk
    rw [hW] at t0 t1 HFW
    have H111 := hide h111
    have HW := hide hW
    have T0 := hide t0
    have T1 := hide t1
    have HBS := hide hbs
    have HND := hide hnd
    have hi1 : (1 : Int) ≤ (s.size : Int) := by omega
    have hne := str_pos h0
    clear h111 hW t0 t1 hbs hnd hb1 hsz1 hrl
    go_enter Tryz.func77, Tryz.ntmps77
    go_wp2_with fail
    rw [unhide HW]
    go_at_call 111
    refine (unhide H111).mono ?_
    rintro e w1 ⟨f1, hm⟩
    rw [unhide HND] at hm
    have hf1 := (unhide HFW).trans f1
    have x0 := (f1.same _ (Array.getElem?_eq_some_iff.1 (unhide T0)).1 (fun h => h)).trans (unhide T0)
    have x1 := (f1.same _ (Array.getElem?_eq_some_iff.1 (unhide T1)).1 (fun h => h)).trans (unhide T1)
    have hz1 : w.heap.size + 1 < w1.heap.size := (Array.getElem?_eq_some_iff.1 x1).1
    have c0 := fun j => cell_of_row w1 _ j _ 49 (0, 0) x0
    have c1 := fun j => cell_of_row w1 _ j _ 49 (0, 0) x1
    have z0 := fun j => frozen_rowE x0 j
    have z1 := fun j => frozen_rowE x1 j
    have HF1 := hide hf1
    have X0 := hide x0
    have X1 := hide x1
    have HWW := hide f1.size
    have HWZ := hide (show W.heap.size = w.heap.size + 2 by rw [← unhide HW]; simp)
    clear f1 hf1 x0 x1 HFW T0 T1 H111
    cases hns : nsGo r.length r with
    | none =>
      rw [hns] at hm
      have hm' : e = .returned (.tuple #[.slice none 0 0, .bool false]) := hm
      subst hm'
      have hip := hide (parse_nums (unhide HBS) hns)
      clear hm hns
      go_wp2
      refine bodyPost_ret (v := .tuple #[.agg #[.int .i64 0, .int .i64 0, .int .i64 0, .slice none 0 0], .bool false]) (by simp [results, Tryz.results77, go_sem, c0]) rfl ?_
      refine pd_none (unhide hip) ?_
      repeat (first | exact unhide HF1 | refine Fr.setCell ?_ _ _ (.inr (Nat.le_refl _)))
    | some ns =>
      rw [hns] at hm
      obtain ⟨hnl, v, he, ho⟩ := hm
      have hnl : ns.length ≤ 200 := by have h : (s.extract 1 s.size).size ≤ s.size := by simp [ByteArray.size_extract]
                                       omega
      subst he
      obtain ⟨va, vc, rfl⟩ := ownI_slice ho
      rw [zs_len]
      rw [zs_len] at ho
      cases ns with
      | nil =>
        have hip := hide (parse_bad (unhide HBS) hns rfl)
        clear hns ho hnl
        go_wp2
        refine bodyPost_ret (v := .tuple #[.agg #[.int .i64 0, .int .i64 0, .int .i64 0, .slice none 0 0], .bool false]) (by simp [results, Tryz.results77, go_sem, c0]) rfl ?_
        refine pd_none (unhide hip) ?_
        repeat (first | exact unhide HF1 | refine Fr.setCell ?_ _ _ (.inr (Nat.le_refl _)))
      | cons a t =>
        obtain ⟨g, cap, cur, hv, hg1, hg2, hg3, hg4, hg5, hg6⟩ := ownI_parts ho (by simp [zs])
        injection hv with hv1 hv2 hv3
        subst hv1 hv3
        have hgz : g < w1.heap.size := (Array.getElem?_eq_some_iff.1 hg2).1
        have hg1' : w.heap.size + 1 < g := by have := unhide HWZ; omega
        have l0 : w1.cell? ⟨g, 0, none⟩ = some (.int .i64 (a : Nat)) := by have := hg6 0 (by simp [zs]); simpa [zs] using this
        have HG6 := hide hg6
        have HNS := hide hns
        have hlen : (a :: t).length = t.length + 1 := rfl
        rw [hlen]
        have htl : t.length ≤ 200 := by have : (a :: t).length ≤ 200 := by omega
                                        simpa using Nat.le_of_succ_le this
        have ht0 : (0 : Int) < (t.length : Int) + 1 := by omega
        have hkc : ((s[0]'h0).toNat : Int) = (k : Int) := by rw [hbyte]
        clear hg6 hg5 hg4 hg2 hns ho hv2 hlen hbyte
        have y1 := setCell_row w1 (w.heap.size + 1) 0 _ 49 (.int .i64 (k : Int)) (unhide X1)
        have y0 : (w1.setCell ⟨w.heap.size + 1, 0, none⟩ (.int .i64 (k : Int))).heap[w.heap.size]? = _ := (Below.heap_setCell w1 ⟨w.heap.size + 1, 0, none⟩ (.int .i64 (k : Int)) w.heap.size (by simp)).trans (unhide X0)
        have yl : (w1.setCell ⟨w.heap.size + 1, 0, none⟩ (.int .i64 (k : Int))).heap[g]? = w1.heap[g]? := Below.heap_setCell w1 ⟨w.heap.size + 1, 0, none⟩ (.int .i64 (k : Int)) g (by simp; omega)
        have hfy := (unhide HF1).setCell ⟨w.heap.size + 1, 0, none⟩ (.int .i64 (k : Int)) (.inr (by simp))
        have hyz : (w1.setCell ⟨w.heap.size + 1, 0, none⟩ (.int .i64 (k : Int))).heap.size = w1.heap.size := by simp [World.setCell]
        go_upto_region 9 with fail
        generalize hw2 : w1.setCell ⟨w.heap.size + 1, 0, none⟩ (.int .i64 (k : Int)) = w2 at *
        have lc : ∀ j, j < t.length + 1 → w2.cell? ⟨g, j, none⟩ = some (.int .i64 ((a :: t).getD j 0 : Nat)) := fun j hj => by
          rw [cellOf_heap yl]
          have h := unhide HG6 j (by rw [zs_len]; exact hj)
          rw [h, zs_getD]
        have c0 := fun j => cell_of_row w2 _ j _ 49 (0, 0) y0
        have c1 := fun j => cell_of_row w2 _ j _ 49 (0, 0) y1
        have z1 := fun j => frozen_rowE y1 j
        have z0 := fun j => frozen_rowE y0 j
        have l0 := lc 0 (by omega)
        have LC := hide lc
        have Y0 := hide y0
        have Y1 := hide y1
        have HFY := hide hfy
        have hz2 : w.heap.size + 1 < w2.heap.size := by omega
        have hg2 : g < w2.heap.size := by omega
        clear y0 y1 yl hfy hyz hw2 lc X0 X1 HF1 HG6 hz1 hgz hg1 HWW
        have hkk := unhide HKK
        subst hkk
        rcases t with _ | ⟨b, _ | ⟨b2, t⟩⟩
        · have HIP := hide (parse_bad (unhide HBS) (unhide HNS) (by simp only [candD]; rw [if_neg (by decide), if_neg (by decide), if_pos trivial]))
          go_wp2
          refine bodyPost_ret (v := .tuple #[.agg #[.int .i64 3, .int .i64 0, .int .i64 0, .slice none 0 0], .bool false]) (by simp [results, Tryz.results77, go_sem, c0]) rfl ?_
          refine pd_none (unhide HIP) ?_
          repeat (first | exact unhide HFY | refine Fr.setCell ?_ _ _ (.inr (Nat.le_refl _)))
        · have l1 : w2.cell? ⟨g, 1, none⟩ = some (.int .i64 (b : Nat)) := unhide LC 1 (by simp)
          by_cases hba : b < a
          · have hbi : (b : Int) < (a : Int) := by omega
            by_cases h2 : 2 ≤ a
            · have h2i : (2 : Int) ≤ (a : Int) := by omega
              by_cases h8 : a ≤ 8
              · have h8i : (a : Int) ≤ 8 := by omega
                have hcd : candD 3 [a, b] = some (3, a, b, []) := by simp only [candD]; rw [if_neg (by decide), if_neg (by decide), if_pos trivial, if_pos ⟨hba, h2, h8⟩]
                have hbd := fun W => body_two 3 a b (.slice none 0 0) none 0 0 rfl (.inl rfl) (by omega) (by omega) W
                go_upto_region 32 with fail
                have p1 := setCell_row w2 (w.heap.size + 1) 1 _ 49 (.int .i64 (a : Int)) (unhide Y1)
                have q1 := setCell_row _ (w.heap.size + 1) 2 _ 49 (.int .i64 (b : Int)) p1
                have q0 : ((w2.setCell ⟨w.heap.size + 1, 1, none⟩ (.int .i64 (a : Int))).setCell ⟨w.heap.size + 1, 2, none⟩ (.int .i64 (b : Int))).heap[w.heap.size]? = _ := (Below.heap_setCell (w2.setCell ⟨w.heap.size + 1, 1, none⟩ (.int .i64 (a : Int))) ⟨w.heap.size + 1, 2, none⟩ (.int .i64 (b : Int)) w.heap.size (by simp)).trans ((Below.heap_setCell w2 ⟨w.heap.size + 1, 1, none⟩ (.int .i64 (a : Int)) w.heap.size (by simp)).trans (unhide Y0))
                have qf := ((unhide HFY).setCell ⟨w.heap.size + 1, 1, none⟩ (.int .i64 (a : Int)) (.inr (by simp))).setCell ⟨w.heap.size + 1, 2, none⟩ (.int .i64 (b : Int)) (.inr (by simp))
                clear p1
                generalize hw3 : (w2.setCell ⟨w.heap.size + 1, 1, none⟩ (.int .i64 (a : Int))).setCell ⟨w.heap.size + 1, 2, none⟩ (.int .i64 (b : Int)) = w3 at *
                have d0 := fun j => cell_of_row w3 _ j _ 49 (0, 0) q0
                have d1 := fun j => cell_of_row w3 _ j _ 49 (0, 0) q1
                have u0 := fun j => frozen_rowE q0 j
                have HFQ := hide qf
                have hz3 : w.heap.size + 1 < w3.heap.size := (Array.getElem?_eq_some_iff.1 q1).1
                clear c0 c1 z1 z0 q0 q1 qf hw3
                obtain ⟨B, hB⟩ : ∃ B, bodyS 3 a b = B := ⟨_, rfl⟩
                have hpc := parse_cand (unhide HBS) (unhide HNS) hcd (b := B) (by rw [← hB]; exact bs_body2 3 a b [] (.inl rfl))
                rw [hB] at hbd
                have HBD := hide hbd
                clear hbd hB
                by_cases hBs : B = s
                · have hip := hide (hpc.1 hBs)
                  clear hpc
                  subst hBs
                  go_region_held3 (fun w' => w'.cell? ⟨w.heap.size + 1, 0, none⟩ = some (.int .i64 (3)) ∧ w'.cell? ⟨w.heap.size + 1, 1, none⟩ = some (.int .i64 (a : Nat)) ∧ w'.cell? ⟨w.heap.size + 1, 2, none⟩ = some (.int .i64 (b : Nat)) ∧ w'.cell? ⟨w.heap.size + 1, 3, none⟩ = some (.slice none 0 0)) (first | (simp [go_sem, d1]; done) | (simp [go_sem, g1]; done)) (first | (go_at_call 112; refine (unhide HBD _).mono ?_; rintro e w4 ⟨rfl, f4⟩; have g0 := fun j => (f4.cell w.heap.size j (by simp; omega) (fun h => h)).trans (d0 j); have g1 := fun j => (f4.cell (w.heap.size + 1) j (by simp; omega) (fun h => h)).trans (d1 j); have v0 := fun j => (f4.frozen w.heap.size j (by simp; omega) (fun h => h)).trans (u0 j); have HF4 := hide ((unhide HFQ).trans (show Fr (fun _ => False) w3 w4 (fun _ => False) from ⟨f4.os, f4.tape, f4.output, f4.size, f4.same, f4.old⟩)); clear f4))
                  all_goals
                    go_wp2_with fail
                    refine bodyPost_ret (v := .tuple #[.agg #[.int .i64 (3), .int .i64 (a : Nat), .int .i64 (b : Nat), .slice none 0 0], .bool true]) (by simp [results, Tryz.results77, go_sem, g0]) rfl ?_
                    refine pd_some (x := (3, a, b, [])) (unhide hip) ?_ ?_
                    · repeat (first | exact unhide HF4 | refine Fr.drew ?_ | refine Fr.setCell ?_ _ _ (.inr (Nat.le_refl _)))
                    · exact ⟨none, 0, rfl, .inl rfl⟩
                · have hip := hide (hpc.2 hBs)
                  have hbq := str_ne hBs
                  clear hpc hBs
                  go_region_held3 (fun w' => w'.cell? ⟨w.heap.size + 1, 0, none⟩ = some (.int .i64 (3)) ∧ w'.cell? ⟨w.heap.size + 1, 1, none⟩ = some (.int .i64 (a : Nat)) ∧ w'.cell? ⟨w.heap.size + 1, 2, none⟩ = some (.int .i64 (b : Nat)) ∧ w'.cell? ⟨w.heap.size + 1, 3, none⟩ = some (.slice none 0 0)) (first | (simp [go_sem, d1]; done) | (simp [go_sem, g1]; done)) (first | (go_at_call 112; refine (unhide HBD _).mono ?_; rintro e w4 ⟨rfl, f4⟩; have g0 := fun j => (f4.cell w.heap.size j (by simp; omega) (fun h => h)).trans (d0 j); have g1 := fun j => (f4.cell (w.heap.size + 1) j (by simp; omega) (fun h => h)).trans (d1 j); have v0 := fun j => (f4.frozen w.heap.size j (by simp; omega) (fun h => h)).trans (u0 j); have HF4 := hide ((unhide HFQ).trans (show Fr (fun _ => False) w3 w4 (fun _ => False) from ⟨f4.os, f4.tape, f4.output, f4.size, f4.same, f4.old⟩)); clear f4))
                  all_goals
                    go_wp2_with fail
                    refine bodyPost_ret (v := .tuple #[.agg #[.int .i64 (3), .int .i64 (a : Nat), .int .i64 (b : Nat), .slice none 0 0], .bool false]) (by simp [results, Tryz.results77, go_sem, g0, hbq]) rfl ?_
                    refine pd_none (unhide hip) ?_
                    repeat (first | exact unhide HF4 | refine Fr.drew ?_ | refine Fr.setCell ?_ _ _ (.inr (Nat.le_refl _)))
              · have h8i : ¬ (a : Int) ≤ 8 := by omega
                have HIP := hide (parse_bad (unhide HBS) (unhide HNS) (by simp only [candD]; rw [if_neg (by decide), if_neg (by decide), if_pos trivial, if_neg (fun h => h8 h.2.2)]))
                go_upto_region 32 with fail
                have p1 := setCell_row w2 (w.heap.size + 1) 1 _ 49 (.int .i64 (a : Int)) (unhide Y1)
                have q1 := setCell_row _ (w.heap.size + 1) 2 _ 49 (.int .i64 (b : Int)) p1
                have q0 : ((w2.setCell ⟨w.heap.size + 1, 1, none⟩ (.int .i64 (a : Int))).setCell ⟨w.heap.size + 1, 2, none⟩ (.int .i64 (b : Int))).heap[w.heap.size]? = _ := (Below.heap_setCell (w2.setCell ⟨w.heap.size + 1, 1, none⟩ (.int .i64 (a : Int))) ⟨w.heap.size + 1, 2, none⟩ (.int .i64 (b : Int)) w.heap.size (by simp)).trans ((Below.heap_setCell w2 ⟨w.heap.size + 1, 1, none⟩ (.int .i64 (a : Int)) w.heap.size (by simp)).trans (unhide Y0))
                have qf := ((unhide HFY).setCell ⟨w.heap.size + 1, 1, none⟩ (.int .i64 (a : Int)) (.inr (by simp))).setCell ⟨w.heap.size + 1, 2, none⟩ (.int .i64 (b : Int)) (.inr (by simp))
                clear p1
                generalize hw3 : (w2.setCell ⟨w.heap.size + 1, 1, none⟩ (.int .i64 (a : Int))).setCell ⟨w.heap.size + 1, 2, none⟩ (.int .i64 (b : Int)) = w3 at *
                have d0 := fun j => cell_of_row w3 _ j _ 49 (0, 0) q0
                have d1 := fun j => cell_of_row w3 _ j _ 49 (0, 0) q1
                have u0 := fun j => frozen_rowE q0 j
                have HFQ := hide qf
                have hz3 : w.heap.size + 1 < w3.heap.size := (Array.getElem?_eq_some_iff.1 q1).1
                clear c0 c1 z1 z0 q0 q1 qf hw3
                go_region
                all_goals
                  go_wp2_with fail
                  refine bodyPost_ret (v := .tuple #[.agg #[.int .i64 (3), .int .i64 (a : Nat), .int .i64 (b : Nat), .slice none 0 0], .bool false]) (by simp [results, Tryz.results77, go_sem, d0]) rfl ?_
                  refine pd_none (unhide HIP) ?_
                  repeat (first | exact unhide HFQ | refine Fr.drew ?_ | refine Fr.setCell ?_ _ _ (.inr (Nat.le_refl _)))
            · have h2i : ¬ (2 : Int) ≤ (a : Int) := by omega
              have HIP := hide (parse_bad (unhide HBS) (unhide HNS) (by simp only [candD]; rw [if_neg (by decide), if_neg (by decide), if_pos trivial, if_neg (fun h => h2 h.2.1)]))
              go_upto_region 32 with fail
              have p1 := setCell_row w2 (w.heap.size + 1) 1 _ 49 (.int .i64 (a : Int)) (unhide Y1)
              have q1 := setCell_row _ (w.heap.size + 1) 2 _ 49 (.int .i64 (b : Int)) p1
              have q0 : ((w2.setCell ⟨w.heap.size + 1, 1, none⟩ (.int .i64 (a : Int))).setCell ⟨w.heap.size + 1, 2, none⟩ (.int .i64 (b : Int))).heap[w.heap.size]? = _ := (Below.heap_setCell (w2.setCell ⟨w.heap.size + 1, 1, none⟩ (.int .i64 (a : Int))) ⟨w.heap.size + 1, 2, none⟩ (.int .i64 (b : Int)) w.heap.size (by simp)).trans ((Below.heap_setCell w2 ⟨w.heap.size + 1, 1, none⟩ (.int .i64 (a : Int)) w.heap.size (by simp)).trans (unhide Y0))
              have qf := ((unhide HFY).setCell ⟨w.heap.size + 1, 1, none⟩ (.int .i64 (a : Int)) (.inr (by simp))).setCell ⟨w.heap.size + 1, 2, none⟩ (.int .i64 (b : Int)) (.inr (by simp))
              clear p1
              generalize hw3 : (w2.setCell ⟨w.heap.size + 1, 1, none⟩ (.int .i64 (a : Int))).setCell ⟨w.heap.size + 1, 2, none⟩ (.int .i64 (b : Int)) = w3 at *
              have d0 := fun j => cell_of_row w3 _ j _ 49 (0, 0) q0
              have d1 := fun j => cell_of_row w3 _ j _ 49 (0, 0) q1
              have u0 := fun j => frozen_rowE q0 j
              have HFQ := hide qf
              have hz3 : w.heap.size + 1 < w3.heap.size := (Array.getElem?_eq_some_iff.1 q1).1
              clear c0 c1 z1 z0 q0 q1 qf hw3
              go_region
              all_goals
                go_wp2_with fail
                refine bodyPost_ret (v := .tuple #[.agg #[.int .i64 (3), .int .i64 (a : Nat), .int .i64 (b : Nat), .slice none 0 0], .bool false]) (by simp [results, Tryz.results77, go_sem, d0]) rfl ?_
                refine pd_none (unhide HIP) ?_
                repeat (first | exact unhide HFQ | refine Fr.drew ?_ | refine Fr.setCell ?_ _ _ (.inr (Nat.le_refl _)))
          · have hbi : ¬ (b : Int) < (a : Int) := by omega
            have HIP := hide (parse_bad (unhide HBS) (unhide HNS) (by simp only [candD]; rw [if_neg (by decide), if_neg (by decide), if_pos trivial, if_neg (fun h => hba h.1)]))
            go_upto_region 32 with fail
            have p1 := setCell_row w2 (w.heap.size + 1) 1 _ 49 (.int .i64 (a : Int)) (unhide Y1)
            have q1 := setCell_row _ (w.heap.size + 1) 2 _ 49 (.int .i64 (b : Int)) p1
            have q0 : ((w2.setCell ⟨w.heap.size + 1, 1, none⟩ (.int .i64 (a : Int))).setCell ⟨w.heap.size + 1, 2, none⟩ (.int .i64 (b : Int))).heap[w.heap.size]? = _ := (Below.heap_setCell (w2.setCell ⟨w.heap.size + 1, 1, none⟩ (.int .i64 (a : Int))) ⟨w.heap.size + 1, 2, none⟩ (.int .i64 (b : Int)) w.heap.size (by simp)).trans ((Below.heap_setCell w2 ⟨w.heap.size + 1, 1, none⟩ (.int .i64 (a : Int)) w.heap.size (by simp)).trans (unhide Y0))
            have qf := ((unhide HFY).setCell ⟨w.heap.size + 1, 1, none⟩ (.int .i64 (a : Int)) (.inr (by simp))).setCell ⟨w.heap.size + 1, 2, none⟩ (.int .i64 (b : Int)) (.inr (by simp))
            clear p1
            generalize hw3 : (w2.setCell ⟨w.heap.size + 1, 1, none⟩ (.int .i64 (a : Int))).setCell ⟨w.heap.size + 1, 2, none⟩ (.int .i64 (b : Int)) = w3 at *
            have d0 := fun j => cell_of_row w3 _ j _ 49 (0, 0) q0
            have d1 := fun j => cell_of_row w3 _ j _ 49 (0, 0) q1
            have u0 := fun j => frozen_rowE q0 j
            have HFQ := hide qf
            have hz3 : w.heap.size + 1 < w3.heap.size := (Array.getElem?_eq_some_iff.1 q1).1
            clear c0 c1 z1 z0 q0 q1 qf hw3
            go_region
            all_goals
              go_wp2_with fail
              refine bodyPost_ret (v := .tuple #[.agg #[.int .i64 (3), .int .i64 (a : Nat), .int .i64 (b : Nat), .slice none 0 0], .bool false]) (by simp [results, Tryz.results77, go_sem, d0]) rfl ?_
              refine pd_none (unhide HIP) ?_
              repeat (first | exact unhide HFQ | refine Fr.drew ?_ | refine Fr.setCell ?_ _ _ (.inr (Nat.le_refl _)))
        · have hq2 : ¬ (t.length : Int) + 1 + 1 + 1 = 2 := by omega
          have HIP := hide (parse_bad (unhide HBS) (unhide HNS) (by simp only [candD]; rw [if_neg (by decide), if_neg (by decide), if_pos trivial]))
          go_wp2
          refine bodyPost_ret (v := .tuple #[.agg #[.int .i64 3, .int .i64 0, .int .i64 0, .slice none 0 0], .bool false]) (by simp [results, Tryz.results77, go_sem, c0]) rfl ?_
          refine pd_none (unhide HIP) ?_
          repeat (first | exact unhide HFY | refine Fr.setCell ?_ _ _ (.inr (Nat.le_refl _)))
end Go.Proofs.YtfmbebofllgmoaaGreatDoor
namespace Go.Proofs.YtfmbebofllgmoaaGreatDoor
open Go.RowKit
attribute [local go_sem ↓] Go.wp_at_zero Go.wp_at_succ

set_option maxHeartbeats 4000000 in
set_option maxRecDepth 20000 in
theorem parsed_k4 (s : ByteArray) (hs : s.size ≤ 100) (w : World) (h0 : 0 < s.size) (hkk : byteAt s 0 = 4) : Calls Tryz.prog 77 #[.string s] w (PdPost s w) := by
  obtain ⟨t0, t1⟩ := two_allocsD w.heap (.cells #[.int .i64 0, .int .i64 0, .int .i64 0, .slice none 0 0] 49) (.cells #[.int .i64 0, .int .i64 0, .int .i64 0, .slice none 0 0] 49)
  change ((w.alloc _).alloc _).heap[_]? = _ at t0 t1
  have hfw : Fr (fun _ => False) w ((w.alloc (.cells #[.int .i64 0, .int .i64 0, .int .i64 0, .slice none 0 0] 49)).alloc (.cells #[.int .i64 0, .int .i64 0, .int .i64 0, .slice none 0 0] 49)) (fun _ => False) := ((Fr.refl _ _).alloc _).alloc _
  have HFW := hide hfw
  · obtain ⟨r, hbs, hrl⟩ := bs_cons h0
    obtain ⟨W, hW⟩ : ∃ W, ((w.alloc (.cells #[.int .i64 0, .int .i64 0, .int .i64 0, .slice none 0 0] 49)).alloc (.cells #[.int .i64 0, .int .i64 0, .int .i64 0, .slice none 0 0] 49)) = W := ⟨_, rfl⟩
    have hb1 : bs (s.extract 1 s.size) = r := by rw [bs_extract, hbs]; rfl
    have hsz1 : (s.extract 1 s.size).size = r.length := by rw [← bs_len, hb1]
    have hnd : numsD (s.extract 1 s.size) = nsGo r.length r := by unfold numsD; rw [hb1, hsz1]
    have h111 := numbers_any (s.extract 1 s.size) (by omega) W
    have hbyte := byteAt_eq s 0 h0
    have hblt := byteAt_lt s 0
    obtain ⟨k, hk⟩ : ∃ k, byteAt s 0 = k := ⟨_, rfl⟩
    rw [hk] at hbs hbyte hblt hkk
    have HKK := hide hkk
    clear hkk
    rw [hW] at t0 t1 HFW
    have H111 := hide h111
    have HW := hide hW
    have T0 := hide t0
    have T1 := hide t1
    have HBS := hide hbs
    have HND := hide hnd
    have hi1 : (1 : Int) ≤ (s.size : Int) := by omega
    have hne := str_pos h0
    clear h111 hW t0 t1 hbs hnd hb1 hsz1 hrl
    go_enter Tryz.func77, Tryz.ntmps77
    go_wp2_with fail
    rw [unhide HW]
    go_at_call 111
    refine (unhide H111).mono ?_
    rintro e w1 ⟨f1, hm⟩
    rw [unhide HND] at hm
    have hf1 := (unhide HFW).trans f1
    have x0 := (f1.same _ (Array.getElem?_eq_some_iff.1 (unhide T0)).1 (fun h => h)).trans (unhide T0)
    have x1 := (f1.same _ (Array.getElem?_eq_some_iff.1 (unhide T1)).1 (fun h => h)).trans (unhide T1)
    have hz1 : w.heap.size + 1 < w1.heap.size := (Array.getElem?_eq_some_iff.1 x1).1
    have c0 := fun j => cell_of_row w1 _ j _ 49 (0, 0) x0
    have c1 := fun j => cell_of_row w1 _ j _ 49 (0, 0) x1
    have z0 := fun j => frozen_rowE x0 j
    have z1 := fun j => frozen_rowE x1 j
    have HF1 := hide hf1
    have X0 := hide x0
    have X1 := hide x1
    have HWW := hide f1.size
    have HWZ := hide (show W.heap.size = w.heap.size + 2 by rw [← unhide HW]; simp)
    clear f1 hf1 x0 x1 HFW T0 T1 H111
    cases hns : nsGo r.length r with
    | none =>
      rw [hns] at hm
      have hm' : e = .returned (.tuple #[.slice none 0 0, .bool false]) := hm
      subst hm'
      have hip := hide (parse_nums (unhide HBS) hns)
      clear hm hns
      go_wp2
      refine bodyPost_ret (v := .tuple #[.agg #[.int .i64 0, .int .i64 0, .int .i64 0, .slice none 0 0], .bool false]) (by simp [results, Tryz.results77, go_sem, c0]) rfl ?_
      refine pd_none (unhide hip) ?_
      repeat (first | exact unhide HF1 | refine Fr.setCell ?_ _ _ (.inr (Nat.le_refl _)))
    | some ns =>
      rw [hns] at hm
      obtain ⟨hnl, v, he, ho⟩ := hm
      have hnl : ns.length ≤ 200 := by have h : (s.extract 1 s.size).size ≤ s.size := by simp [ByteArray.size_extract]
                                       omega
      subst he
      obtain ⟨va, vc, rfl⟩ := ownI_slice ho
      rw [zs_len]
      rw [zs_len] at ho
      cases ns with
      | nil =>
        have hip := hide (parse_bad (unhide HBS) hns rfl)
        clear hns ho hnl
        go_wp2
        refine bodyPost_ret (v := .tuple #[.agg #[.int .i64 0, .int .i64 0, .int .i64 0, .slice none 0 0], .bool false]) (by simp [results, Tryz.results77, go_sem, c0]) rfl ?_
        refine pd_none (unhide hip) ?_
        repeat (first | exact unhide HF1 | refine Fr.setCell ?_ _ _ (.inr (Nat.le_refl _)))
      | cons a t =>
        obtain ⟨g, cap, cur, hv, hg1, hg2, hg3, hg4, hg5, hg6⟩ := ownI_parts ho (by simp [zs])
        injection hv with hv1 hv2 hv3
        subst hv1 hv3
        have hgz : g < w1.heap.size := (Array.getElem?_eq_some_iff.1 hg2).1
        have hg1' : w.heap.size + 1 < g := by have := unhide HWZ; omega
        have l0 : w1.cell? ⟨g, 0, none⟩ = some (.int .i64 (a : Nat)) := by have := hg6 0 (by simp [zs]); simpa [zs] using this
        have HG6 := hide hg6
        have HNS := hide hns
        have hlen : (a :: t).length = t.length + 1 := rfl
        rw [hlen]
        have htl : t.length ≤ 200 := by have : (a :: t).length ≤ 200 := by omega
                                        simpa using Nat.le_of_succ_le this
        have ht0 : (0 : Int) < (t.length : Int) + 1 := by omega
        have hkc : ((s[0]'h0).toNat : Int) = (k : Int) := by rw [hbyte]
        clear hg6 hg5 hg4 hg2 hns ho hv2 hlen hbyte
        have y1 := setCell_row w1 (w.heap.size + 1) 0 _ 49 (.int .i64 (k : Int)) (unhide X1)
        have y0 : (w1.setCell ⟨w.heap.size + 1, 0, none⟩ (.int .i64 (k : Int))).heap[w.heap.size]? = _ := (Below.heap_setCell w1 ⟨w.heap.size + 1, 0, none⟩ (.int .i64 (k : Int)) w.heap.size (by simp)).trans (unhide X0)
        have yl : (w1.setCell ⟨w.heap.size + 1, 0, none⟩ (.int .i64 (k : Int))).heap[g]? = w1.heap[g]? := Below.heap_setCell w1 ⟨w.heap.size + 1, 0, none⟩ (.int .i64 (k : Int)) g (by simp; omega)
        have hfy := (unhide HF1).setCell ⟨w.heap.size + 1, 0, none⟩ (.int .i64 (k : Int)) (.inr (by simp))
        have hyz : (w1.setCell ⟨w.heap.size + 1, 0, none⟩ (.int .i64 (k : Int))).heap.size = w1.heap.size := by simp [World.setCell]
        go_upto_region 9 with fail
        generalize hw2 : w1.setCell ⟨w.heap.size + 1, 0, none⟩ (.int .i64 (k : Int)) = w2 at *
        have lc : ∀ j, j < t.length + 1 → w2.cell? ⟨g, j, none⟩ = some (.int .i64 ((a :: t).getD j 0 : Nat)) := fun j hj => by
          rw [cellOf_heap yl]
          have h := unhide HG6 j (by rw [zs_len]; exact hj)
          rw [h, zs_getD]
        have c0 := fun j => cell_of_row w2 _ j _ 49 (0, 0) y0
        have c1 := fun j => cell_of_row w2 _ j _ 49 (0, 0) y1
        have z1 := fun j => frozen_rowE y1 j
        have z0 := fun j => frozen_rowE y0 j
        have l0 := lc 0 (by omega)
        have LC := hide lc
        have Y0 := hide y0
        have Y1 := hide y1
        have HFY := hide hfy
        have hz2 : w.heap.size + 1 < w2.heap.size := by omega
        have hg2 : g < w2.heap.size := by omega
        clear y0 y1 yl hfy hyz hw2 lc X0 X1 HF1 HG6 hz1 hgz hg1 HWW
        have hkk := unhide HKK
        subst hkk
        rcases t with _ | ⟨b, _ | ⟨b2, t⟩⟩
        · have HIP := hide (parse_bad (unhide HBS) (unhide HNS) (by simp only [candD]; rw [if_neg (by decide), if_neg (by decide), if_neg (by decide), if_pos trivial]))
          go_wp2
          refine bodyPost_ret (v := .tuple #[.agg #[.int .i64 4, .int .i64 0, .int .i64 0, .slice none 0 0], .bool false]) (by simp [results, Tryz.results77, go_sem, c0]) rfl ?_
          refine pd_none (unhide HIP) ?_
          repeat (first | exact unhide HFY | refine Fr.setCell ?_ _ _ (.inr (Nat.le_refl _)))
        · have l1 : w2.cell? ⟨g, 1, none⟩ = some (.int .i64 (b : Nat)) := unhide LC 1 (by simp)
          by_cases hba : b < a
          · have hbi : (b : Int) < (a : Int) := by omega
            by_cases h8 : a ≤ 1000000
            · have h8i : (a : Int) ≤ 1000000 := by omega
              have hcd : candD 4 [a, b] = some (4, a, b, []) := by simp only [candD]; rw [if_neg (by decide), if_neg (by decide), if_neg (by decide), if_pos trivial, if_pos ⟨hba, h8⟩]
              have hbd := fun W => body_two 4 a b (.slice none 0 0) none 0 0 rfl (.inr rfl) (by omega) (by omega) W
              go_upto_region 32 with fail
              have p1 := setCell_row w2 (w.heap.size + 1) 1 _ 49 (.int .i64 (a : Int)) (unhide Y1)
              have q1 := setCell_row _ (w.heap.size + 1) 2 _ 49 (.int .i64 (b : Int)) p1
              have q0 : ((w2.setCell ⟨w.heap.size + 1, 1, none⟩ (.int .i64 (a : Int))).setCell ⟨w.heap.size + 1, 2, none⟩ (.int .i64 (b : Int))).heap[w.heap.size]? = _ := (Below.heap_setCell (w2.setCell ⟨w.heap.size + 1, 1, none⟩ (.int .i64 (a : Int))) ⟨w.heap.size + 1, 2, none⟩ (.int .i64 (b : Int)) w.heap.size (by simp)).trans ((Below.heap_setCell w2 ⟨w.heap.size + 1, 1, none⟩ (.int .i64 (a : Int)) w.heap.size (by simp)).trans (unhide Y0))
              have qf := ((unhide HFY).setCell ⟨w.heap.size + 1, 1, none⟩ (.int .i64 (a : Int)) (.inr (by simp))).setCell ⟨w.heap.size + 1, 2, none⟩ (.int .i64 (b : Int)) (.inr (by simp))
              clear p1
              generalize hw3 : (w2.setCell ⟨w.heap.size + 1, 1, none⟩ (.int .i64 (a : Int))).setCell ⟨w.heap.size + 1, 2, none⟩ (.int .i64 (b : Int)) = w3 at *
              have d0 := fun j => cell_of_row w3 _ j _ 49 (0, 0) q0
              have d1 := fun j => cell_of_row w3 _ j _ 49 (0, 0) q1
              have u0 := fun j => frozen_rowE q0 j
              have HFQ := hide qf
              have hz3 : w.heap.size + 1 < w3.heap.size := (Array.getElem?_eq_some_iff.1 q1).1
              clear c0 c1 z1 z0 q0 q1 qf hw3
              obtain ⟨B, hB⟩ : ∃ B, bodyS 4 a b = B := ⟨_, rfl⟩
              have hpc := parse_cand (unhide HBS) (unhide HNS) hcd (b := B) (by rw [← hB]; exact bs_body2 4 a b [] (.inr rfl))
              rw [hB] at hbd
              have HBD := hide hbd
              clear hbd hB
              by_cases hBs : B = s
              · have hip := hide (hpc.1 hBs)
                clear hpc
                subst hBs
                go_region_held3 (fun w' => w'.cell? ⟨w.heap.size + 1, 0, none⟩ = some (.int .i64 (4)) ∧ w'.cell? ⟨w.heap.size + 1, 1, none⟩ = some (.int .i64 (a : Nat)) ∧ w'.cell? ⟨w.heap.size + 1, 2, none⟩ = some (.int .i64 (b : Nat)) ∧ w'.cell? ⟨w.heap.size + 1, 3, none⟩ = some (.slice none 0 0)) (first | (simp [go_sem, d1]; done) | (simp [go_sem, g1]; done)) (first | (go_at_call 112; refine (unhide HBD _).mono ?_; rintro e w4 ⟨rfl, f4⟩; have g0 := fun j => (f4.cell w.heap.size j (by simp; omega) (fun h => h)).trans (d0 j); have g1 := fun j => (f4.cell (w.heap.size + 1) j (by simp; omega) (fun h => h)).trans (d1 j); have v0 := fun j => (f4.frozen w.heap.size j (by simp; omega) (fun h => h)).trans (u0 j); have HF4 := hide ((unhide HFQ).trans (show Fr (fun _ => False) w3 w4 (fun _ => False) from ⟨f4.os, f4.tape, f4.output, f4.size, f4.same, f4.old⟩)); clear f4))
                all_goals
                  go_wp2_with fail
                  refine bodyPost_ret (v := .tuple #[.agg #[.int .i64 (4), .int .i64 (a : Nat), .int .i64 (b : Nat), .slice none 0 0], .bool true]) (by simp [results, Tryz.results77, go_sem, g0]) rfl ?_
                  refine pd_some (x := (4, a, b, [])) (unhide hip) ?_ ?_
                  · repeat (first | exact unhide HF4 | refine Fr.drew ?_ | refine Fr.setCell ?_ _ _ (.inr (Nat.le_refl _)))
                  · exact ⟨none, 0, rfl, .inl rfl⟩
              · have hip := hide (hpc.2 hBs)
                have hbq := str_ne hBs
                clear hpc hBs
                go_region_held3 (fun w' => w'.cell? ⟨w.heap.size + 1, 0, none⟩ = some (.int .i64 (4)) ∧ w'.cell? ⟨w.heap.size + 1, 1, none⟩ = some (.int .i64 (a : Nat)) ∧ w'.cell? ⟨w.heap.size + 1, 2, none⟩ = some (.int .i64 (b : Nat)) ∧ w'.cell? ⟨w.heap.size + 1, 3, none⟩ = some (.slice none 0 0)) (first | (simp [go_sem, d1]; done) | (simp [go_sem, g1]; done)) (first | (go_at_call 112; refine (unhide HBD _).mono ?_; rintro e w4 ⟨rfl, f4⟩; have g0 := fun j => (f4.cell w.heap.size j (by simp; omega) (fun h => h)).trans (d0 j); have g1 := fun j => (f4.cell (w.heap.size + 1) j (by simp; omega) (fun h => h)).trans (d1 j); have v0 := fun j => (f4.frozen w.heap.size j (by simp; omega) (fun h => h)).trans (u0 j); have HF4 := hide ((unhide HFQ).trans (show Fr (fun _ => False) w3 w4 (fun _ => False) from ⟨f4.os, f4.tape, f4.output, f4.size, f4.same, f4.old⟩)); clear f4))
                all_goals
                  go_wp2_with fail
                  refine bodyPost_ret (v := .tuple #[.agg #[.int .i64 (4), .int .i64 (a : Nat), .int .i64 (b : Nat), .slice none 0 0], .bool false]) (by simp [results, Tryz.results77, go_sem, g0, hbq]) rfl ?_
                  refine pd_none (unhide hip) ?_
                  repeat (first | exact unhide HF4 | refine Fr.drew ?_ | refine Fr.setCell ?_ _ _ (.inr (Nat.le_refl _)))
            · have h8i : ¬ (a : Int) ≤ 1000000 := by omega
              have HIP := hide (parse_bad (unhide HBS) (unhide HNS) (by simp only [candD]; rw [if_neg (by decide), if_neg (by decide), if_neg (by decide), if_pos trivial, if_neg (fun h => h8 h.2)]))
              go_upto_region 32 with fail
              have p1 := setCell_row w2 (w.heap.size + 1) 1 _ 49 (.int .i64 (a : Int)) (unhide Y1)
              have q1 := setCell_row _ (w.heap.size + 1) 2 _ 49 (.int .i64 (b : Int)) p1
              have q0 : ((w2.setCell ⟨w.heap.size + 1, 1, none⟩ (.int .i64 (a : Int))).setCell ⟨w.heap.size + 1, 2, none⟩ (.int .i64 (b : Int))).heap[w.heap.size]? = _ := (Below.heap_setCell (w2.setCell ⟨w.heap.size + 1, 1, none⟩ (.int .i64 (a : Int))) ⟨w.heap.size + 1, 2, none⟩ (.int .i64 (b : Int)) w.heap.size (by simp)).trans ((Below.heap_setCell w2 ⟨w.heap.size + 1, 1, none⟩ (.int .i64 (a : Int)) w.heap.size (by simp)).trans (unhide Y0))
              have qf := ((unhide HFY).setCell ⟨w.heap.size + 1, 1, none⟩ (.int .i64 (a : Int)) (.inr (by simp))).setCell ⟨w.heap.size + 1, 2, none⟩ (.int .i64 (b : Int)) (.inr (by simp))
              clear p1
              generalize hw3 : (w2.setCell ⟨w.heap.size + 1, 1, none⟩ (.int .i64 (a : Int))).setCell ⟨w.heap.size + 1, 2, none⟩ (.int .i64 (b : Int)) = w3 at *
              have d0 := fun j => cell_of_row w3 _ j _ 49 (0, 0) q0
              have d1 := fun j => cell_of_row w3 _ j _ 49 (0, 0) q1
              have u0 := fun j => frozen_rowE q0 j
              have HFQ := hide qf
              have hz3 : w.heap.size + 1 < w3.heap.size := (Array.getElem?_eq_some_iff.1 q1).1
              clear c0 c1 z1 z0 q0 q1 qf hw3
              go_region
              all_goals
                go_wp2_with fail
                refine bodyPost_ret (v := .tuple #[.agg #[.int .i64 (4), .int .i64 (a : Nat), .int .i64 (b : Nat), .slice none 0 0], .bool false]) (by simp [results, Tryz.results77, go_sem, d0]) rfl ?_
                refine pd_none (unhide HIP) ?_
                repeat (first | exact unhide HFQ | refine Fr.drew ?_ | refine Fr.setCell ?_ _ _ (.inr (Nat.le_refl _)))
          · have hbi : ¬ (b : Int) < (a : Int) := by omega
            have HIP := hide (parse_bad (unhide HBS) (unhide HNS) (by simp only [candD]; rw [if_neg (by decide), if_neg (by decide), if_neg (by decide), if_pos trivial, if_neg (fun h => hba h.1)]))
            go_upto_region 32 with fail
            have p1 := setCell_row w2 (w.heap.size + 1) 1 _ 49 (.int .i64 (a : Int)) (unhide Y1)
            have q1 := setCell_row _ (w.heap.size + 1) 2 _ 49 (.int .i64 (b : Int)) p1
            have q0 : ((w2.setCell ⟨w.heap.size + 1, 1, none⟩ (.int .i64 (a : Int))).setCell ⟨w.heap.size + 1, 2, none⟩ (.int .i64 (b : Int))).heap[w.heap.size]? = _ := (Below.heap_setCell (w2.setCell ⟨w.heap.size + 1, 1, none⟩ (.int .i64 (a : Int))) ⟨w.heap.size + 1, 2, none⟩ (.int .i64 (b : Int)) w.heap.size (by simp)).trans ((Below.heap_setCell w2 ⟨w.heap.size + 1, 1, none⟩ (.int .i64 (a : Int)) w.heap.size (by simp)).trans (unhide Y0))
            have qf := ((unhide HFY).setCell ⟨w.heap.size + 1, 1, none⟩ (.int .i64 (a : Int)) (.inr (by simp))).setCell ⟨w.heap.size + 1, 2, none⟩ (.int .i64 (b : Int)) (.inr (by simp))
            clear p1
            generalize hw3 : (w2.setCell ⟨w.heap.size + 1, 1, none⟩ (.int .i64 (a : Int))).setCell ⟨w.heap.size + 1, 2, none⟩ (.int .i64 (b : Int)) = w3 at *
            have d0 := fun j => cell_of_row w3 _ j _ 49 (0, 0) q0
            have d1 := fun j => cell_of_row w3 _ j _ 49 (0, 0) q1
            have u0 := fun j => frozen_rowE q0 j
            have HFQ := hide qf
            have hz3 : w.heap.size + 1 < w3.heap.size := (Array.getElem?_eq_some_iff.1 q1).1
            clear c0 c1 z1 z0 q0 q1 qf hw3
            go_region
            all_goals
              go_wp2_with fail
              refine bodyPost_ret (v := .tuple #[.agg #[.int .i64 (4), .int .i64 (a : Nat), .int .i64 (b : Nat), .slice none 0 0], .bool false]) (by simp [results, Tryz.results77, go_sem, d0]) rfl ?_
              refine pd_none (unhide HIP) ?_
              repeat (first | exact unhide HFQ | refine Fr.drew ?_ | refine Fr.setCell ?_ _ _ (.inr (Nat.le_refl _)))
        · have hq2 : ¬ (t.length : Int) + 1 + 1 + 1 = 2 := by omega
          have HIP := hide (parse_bad (unhide HBS) (unhide HNS) (by simp only [candD]; rw [if_neg (by decide), if_neg (by decide), if_neg (by decide), if_pos trivial]))
          go_wp2
          refine bodyPost_ret (v := .tuple #[.agg #[.int .i64 4, .int .i64 0, .int .i64 0, .slice none 0 0], .bool false]) (by simp [results, Tryz.results77, go_sem, c0]) rfl ?_
          refine pd_none (unhide HIP) ?_
          repeat (first | exact unhide HFY | refine Fr.setCell ?_ _ _ (.inr (Nat.le_refl _)))
end Go.Proofs.YtfmbebofllgmoaaGreatDoor
namespace Go.Proofs.YtfmbebofllgmoaaGreatDoor
open Go.RowKit
attribute [local go_sem ↓] Go.wp_at_zero Go.wp_at_succ

set_option maxHeartbeats 1000000 in
theorem parsed_any (s : ByteArray) (hs : s.size ≤ 100) (w : World) : Calls Tryz.prog 77 #[.string s] w (PdPost s w) := by
  by_cases h0 : 0 < s.size
  · by_cases h1 : byteAt s 0 = 1
    · exact parsed_k1 s hs w h0 h1
    by_cases h2 : byteAt s 0 = 2
    · exact parsed_k2 s hs w h0 h2
    by_cases h3 : byteAt s 0 = 3
    · exact parsed_k3 s hs w h0 h3
    by_cases h4 : byteAt s 0 = 4
    · exact parsed_k4 s hs w h0 h4
    by_cases h5 : byteAt s 0 = 5
    · exact parsed_k5 s hs w h0 h5
    exact parsed_k0 s hs w h0 ⟨h1, h2, h3, h4, h5⟩
  · have hfw : Fr (fun _ => False) w ((w.alloc (.cells #[.int .i64 0, .int .i64 0, .int .i64 0, .slice none 0 0] 49)).alloc (.cells #[.int .i64 0, .int .i64 0, .int .i64 0, .slice none 0 0] 49)) (fun _ => False) := ((Fr.refl _ _).alloc _).alloc _
    have HFW := hide hfw
    clear hfw
    cases str_zero h0
    have hip := hide (show ipL (bs ⟨#[]⟩) = none from rfl)
    go_enter Tryz.func77, Tryz.ntmps77
    go_wp2
    refine bodyPost_ret (v := .tuple #[.agg #[.int .i64 0, .int .i64 0, .int .i64 0, .slice none 0 0], .bool false]) (by simp [results, Tryz.results77, go_sem]) rfl ?_
    refine pd_none (unhide hip) ?_
    repeat (first | exact unhide HFW | refine Fr.setCell ?_ _ _ (.inr (Nat.le_refl _)))
end Go.Proofs.YtfmbebofllgmoaaGreatDoor
namespace Go.Proofs.YtfmbebofllgmoaaGreatDoor
open Go.RowKit
attribute [local go_sem ↓] Go.wp_at_zero Go.wp_at_succ

theorem wpList_growB {ops : Array Oper} {rest : List Oper} {o : Oper} {a : Act} {Q : Exit → Act → World → Prop} {w : World} {B t e size bytes : Nat} (E : Elem t e size bytes) (hs0 : 0 < size) (hs1 : bytes ≤ 100) {v : Value} {n m : Nat} {xs news : List Value} (hgd : o.guard = none) (sv xv : Operand)
    (ho : o.op = .call { callee := .builtin .append, args := #[sv, xv], argTypes := #[t, t] }) {ad : Addr} {cap : Nat} (hs : a.eval sv = v) (hx : a.eval xv = .slice (some ad) m cap) (hrow : w.ownsRow B e size v n xs) (hl : news.length = m * size)
    (hc : ∀ j u, news[j]? = some u → w.cell? (ad.add j) = some u) (h1 : ∀ u ∈ news, u.oneCell' = true) (hm : 0 < m) (hn : n + m ≤ 1000000000000) (hB : B ≤ w.heap.size)
    (h : ∀ v' w', w'.ownsRow B e size v' (n + m) (xs ++ news) → Fr (own v) w w' (own v') → (∃ a c, v' = .slice a (n + m) c) → wpList Tryz.prog ops Q rest (a.put o.dst v') w') : wpList Tryz.prog ops Q (o :: rest) a w := by
  obtain ⟨i, z, hi, hz, hsz, hby, hzc⟩ := E.i
  have hmx : n + m ≤ maxLen := by simp only [maxLen]; omega
  have hbb : (n + m) * bytes ≤ 140737488355328 := Nat.le_trans (Nat.mul_le_mul hn hs1) (by omega)
  refine wpList_append_lies _ hgd sv xv t ho B e i z size bytes E.u hi hz hsz hby hzc hs0 v n xs hs hrow ad m cap news hx hl hc h1 hm hmx hbb hB w.heap.size rfl ?_
  intro g cp w' h1 h2 h3 h4
  exact h _ w' h1 (grow_fr h2 h3) ⟨_, _, rfl⟩

set_option maxHeartbeats 4000000 in
set_option maxRecDepth 20000 in
theorem refReadB_any (hpd : ∀ (b : ByteArray), b.size ≤ 100 → ∀ W, Calls Tryz.prog 77 #[.string b] W (PdPost b W)) (s : ByteArray) (hs : s.size ≤ 1000000000) (w : World) : Calls Tryz.prog 43 #[.string s] w (RdPost s w) := by
  have HPD := hide hpd
  clear hpd
  by_cases h3 : s.size < 3
  · have h3i : (s.size : Int) < 3 := by omega
    have hn0 : (0 : Int) ≤ (s.size : Int) := by omega
    have hn3 : (s.size : Int) ≤ 3 := by omega
    have hnp : ¬ hd3 <+: bs s := fun h => by have := h.length_le; rw [bs_len] at this; have e3 : hd3.length = 3 := rfl; omega
    obtain ⟨T, hT⟩ : ∃ T, (⟨#[82, 82, 49]⟩ : ByteArray).extract 0 s.size = T := ⟨_, rfl⟩
    have hbT : bs T = hd3.take s.size := by rw [← hT, bs_sub, List.drop_zero]; rfl
    by_cases hh : s = T
    · have hrd : readL (bs s) = ([], 0, 2) := by unfold readL; rw [if_neg hnp, if_pos (by rw [hh, hbT]; exact List.take_prefix _ _)]
      have HP : Hid (RdPost s w (.returned (.tuple #[.slice none 0 0, .int .i64 0, .int .i64 2])) w) := ⟨none, 0, [], by rw [hrd]; rfl, DIns.nil _ _, by rw [hrd]; rfl, Fr.refl _ _⟩
      have hq : (s.toList == T.toList) = true := by rw [hh]; simp
      have hq' : s.toList = T.toList := by rw [hh]
      clear hnp hrd hh hbT
      go_enter Tryz.func43, Tryz.ntmps43
      go_wp2
      exact bodyPost_ret (v := .tuple #[.slice none 0 0, .int .i64 0, .int .i64 2]) (by simp [results, Tryz.results43, go_sem]) rfl (unhide HP)
    · have hrd : readL (bs s) = ([], 0, 4) := by
        unfold readL
        rw [if_neg hnp, if_neg (fun h => hh (bs_inj (by
          rw [hbT]
          have h1 := List.prefix_iff_eq_take.1 h
          rw [bs_len] at h1
          exact h1)))]
      have HP : Hid (RdPost s w (.returned (.tuple #[.slice none 0 0, .int .i64 0, .int .i64 4])) w) := ⟨none, 0, [], by rw [hrd]; rfl, DIns.nil _ _, by rw [hrd]; rfl, Fr.refl _ _⟩
      have hq : (s.toList == T.toList) = false := by simpa using str_ne hh
      have hq' := str_ne hh
      clear hnp hrd hh hbT
      go_enter Tryz.func43, Tryz.ntmps43
      go_wp2
      exact bodyPost_ret (v := .tuple #[.slice none 0 0, .int .i64 0, .int .i64 4]) (by simp [results, Tryz.results43, go_sem]) rfl (unhide HP)
  have h3i : ¬ (s.size : Int) < 3 := by omega
  have h3j : (3 : Int) ≤ (s.size : Int) := by omega
  by_cases hh : s.extract 0 3 = ⟨#[82, 82, 49]⟩
  · have hhd : hd3 <+: bs s := by
      refine ⟨(bs s).drop 3, ?_⟩
      have h := congrArg bs hh
      rw [bs_sub, List.drop_zero] at h
      have e2 : bs ⟨#[82, 82, 49]⟩ = hd3 := rfl
      rw [e2] at h
      rw [← h]; exact List.take_append_drop 3 (bs s)
    have hst : DRel s w (.slice none 0 0) (.int .i64 3) w := ⟨3, s.size + 1, none, 0, [], rfl, rfl, Nat.le_refl _, by omega, Nat.zero_le _, by omega, DIns.nil _ _, Fr.refl _ _, by
      unfold readL; rw [if_pos hhd, bs_len]; rfl⟩
    have HST := hide hst
    have hq : (s.extract 0 3).toList = [82, 82, 49] := by rw [hh, Go.ByteArray.toList_eq]
    clear hst hhd hh
    go_enter Tryz.func43, Tryz.ntmps43
    go_wp2
    go_loopw [6, 7] (fun u6 u7 wr => DRel s w u6 u7 wr) (fun _ u7 _ => s.size - (intOf u7).toNat)
    case atStart => exact unhide HST
    case round =>
      obtain ⟨at_, f, a, c, ps, rfl, rfl, ha3, has, hpl, hfa, hdi, hfr, hrd⟩ := hrel
      have HDI := hide hdi
      have HFR := hide hfr
      have HRD := hide hrd
      clear hdi hfr hrd HST
      by_cases hlt : at_ < s.size
      · have hlti : (at_ : Int) < (s.size : Int) := by omega
        have hai : (0 : Int) ≤ (at_ : Int) := by omega
        have e0 := byteAt_eq s at_ hlt
        have hb := byteAt_lt s at_
        have hdr := bs_drop s at_ hlt
        obtain ⟨n, hn⟩ : ∃ n, byteAt s at_ = n := ⟨_, rfl⟩
        rw [hn] at e0 hb hdr
        have hbn : ((s[at_]'hlt).toNat : Int) = (n : Int) := by rw [e0]
        obtain ⟨f, rfl⟩ : ∃ g, f = g + 1 := ⟨f - 1, by omega⟩
        obtain ⟨t, ht⟩ : ∃ t, (bs s).drop (at_ + 1) = t := ⟨_, rfl⟩
        have htl : t.length + at_ + 1 = s.size := by rw [← ht, List.length_drop, bs_len]; omega
        rw [ht] at hdr
        have HDR := hide hdr
        have HT := hide ht
        have hw1 : IntKind.i64.wrap ((at_ : Int) + 1) = (at_ : Int) + 1 := by rw [IntKind.wrap_i64]; omega
        have post := fun wy (h : rcL (n :: t) = .inl wy) => rd_post (unhide HRD) (by rw [unhide HDR]; exact rd_inl f (n :: t) at_ wy h) (unhide HDI) (unhide HFR)
        have POST := hide post
        have postW := fun (W : World) (hW : Fr (fun _ => False) wr W (fun _ => False)) wy (h : rcL (n :: t) = .inl wy) => rd_post (unhide HRD) (by rw [unhide HDR]; exact rd_inl f (n :: t) at_ wy h) ((unhide HDI).fr hW) ((unhide HFR).trans hW)
        have POSTW := hide postW
        clear postW
        clear e0 hdr ht post hn
        by_cases hlo : n < 1
        · have hloi : (n : Int) < 1 := by omega
          have h128 : ¬ (128 : Int) ≤ (n : Int) := by omega
          have HP := hide (unhide POST 4 (by simp only [rcL]; rw [if_neg (by omega), if_pos (.inl hlo)]))
          go_wp2
          exact bodyPost_ret (v := .tuple #[.slice a ps.length c, .int .i64 at_, .int .i64 4]) (by simp [results, Tryz.results43, go_sem]) rfl (unhide HP)
        have hloi : ¬ (n : Int) < 1 := by omega
        by_cases hhi : 40 < n
        · have hhii : (40 : Int) < (n : Int) := by omega
          by_cases h128 : 128 ≤ n
          · have h128i : (128 : Int) ≤ (n : Int) := by omega
            by_cases hte : t = []
            · have hz : ((at_ : Int) + 1 == (s.size : Int)) = true := by
                rw [hte] at htl
                have : (at_ : Int) + 1 = (s.size : Int) := by simp at htl; omega
                simpa using this
              have HP := hide (unhide POST 2 (by simp only [rcL]; rw [if_pos ⟨h128, hte⟩]))
              clear hte
              go_wp2
              exact bodyPost_ret (v := .tuple #[.slice a ps.length c, .int .i64 at_, .int .i64 2]) (by simp [results, Tryz.results43, go_sem]) rfl (unhide HP)
            · have hz : ((at_ : Int) + 1 == (s.size : Int)) = false := by
                have : t.length ≠ 0 := fun e => hte (List.eq_nil_of_length_eq_zero e)
                have : ¬ (at_ : Int) + 1 = (s.size : Int) := by omega
                simpa using this
              have HP := hide (unhide POST 4 (by simp only [rcL]; rw [if_neg (fun h => hte h.2), if_pos (.inr hhi)]))
              clear hte
              go_wp2
              exact bodyPost_ret (v := .tuple #[.slice a ps.length c, .int .i64 at_, .int .i64 4]) (by simp [results, Tryz.results43, go_sem]) rfl (unhide HP)
          · have h128i : ¬ (128 : Int) ≤ (n : Int) := by omega
            have HP := hide (unhide POST 4 (by simp only [rcL]; rw [if_neg (fun h => h128 h.1), if_pos (.inr hhi)]))
            go_wp2
            exact bodyPost_ret (v := .tuple #[.slice a ps.length c, .int .i64 at_, .int .i64 4]) (by simp [results, Tryz.results43, go_sem]) rfl (unhide HP)
        have hhii : ¬ (40 : Int) < (n : Int) := by omega
        have hc1 : ¬ (128 ≤ n ∧ t = []) := by omega
        have hc2 : ¬ (n < 1 ∨ 40 < n) := by omega
        have hw2 : IntKind.i64.wrap ((at_ : Int) + 1 + (n : Int)) = (at_ : Int) + 1 + (n : Int) := by rw [IntKind.wrap_i64]; omega
        have hw3 : IntKind.i64.wrap ((at_ : Int) + 1 + (n : Int) + 4) = (at_ : Int) + 1 + (n : Int) + 4 := by rw [IntKind.wrap_i64]; omega
        by_cases hsh : t.length < n + 4
        · have hshi : (s.size : Int) < (at_ : Int) + 1 + (n : Int) + 4 := by omega
          have HP := hide (unhide POST 2 (by simp only [rcL]; rw [if_neg hc1, if_neg hc2, if_pos hsh]))
          go_wp2
          exact bodyPost_ret (v := .tuple #[.slice a ps.length c, .int .i64 at_, .int .i64 2]) (by simp [results, Tryz.results43, go_sem]) rfl (unhide HP)
        have hshi : ¬ (s.size : Int) < (at_ : Int) + 1 + (n : Int) + 4 := by omega
        have hw5 : IntKind.i64.wrap ((at_ : Int) + 5) = (at_ : Int) + 5 := by rw [IntKind.wrap_i64]; omega
        have hw6 : IntKind.i64.wrap ((at_ : Int) + 5 + (n : Int)) = (at_ : Int) + 5 + (n : Int) := by rw [IntKind.wrap_i64]; omega
        have t1 : ((at_ : Int) + 1).toNat = at_ + 1 := by omega
        have t2 : ((at_ : Int) + 1 + (n : Int)).toNat = at_ + 1 + n := by omega
        have t3 : ((at_ : Int) + 5 + (n : Int)).toNat = at_ + 5 + n := by omega
        have i1 : (0 : Int) ≤ (at_ : Int) + 1 := by omega
        have i2 : (at_ : Int) + 1 ≤ (at_ : Int) + 1 + (n : Int) := by omega
        have i3 : (at_ : Int) + 1 + (n : Int) ≤ (s.size : Int) := by omega
        have i4 : (0 : Int) ≤ (at_ : Int) + 1 + (n : Int) := by omega
        have i5 : (at_ : Int) + 1 + (n : Int) ≤ (at_ : Int) + 5 + (n : Int) := by omega
        have i6 : (at_ : Int) + 5 + (n : Int) ≤ (s.size : Int) := by omega
        obtain ⟨b, hbb⟩ : ∃ b, s.extract (at_ + 1) (at_ + 1 + n) = b := ⟨_, rfl⟩
        obtain ⟨m, hmm⟩ : ∃ m, s.extract (at_ + 1 + n) (at_ + 5 + n) = m := ⟨_, rfl⟩
        have bb : bs b = t.take n := by
          rw [← hbb, bs_sub, ← unhide HT, List.drop_take]; congr 1; omega
        have bm : bs m = (t.drop n).take 4 := by
          rw [← hmm, bs_sub, ← unhide HT, List.drop_take, List.drop_drop]; congr 1; omega
        have bz : b.size ≤ 40 := by rw [← bs_len, bb, List.length_take]; omega
        have H76 := hide (fun W => sum_any b (by omega) W)
        have BB := hide bb
        have hsum : (sm (t.take n) = (t.drop n).take 4) ↔ m = sumS b := by
          rw [← bb, sm_bs, ← bm]
          exact ⟨fun h => bs_inj h.symm, fun h => by rw [h]⟩
        have HSUM := hide hsum
        obtain ⟨S, hS⟩ : ∃ S, sumS b = S := ⟨_, rfl⟩
        rw [hS] at H76 HSUM
        clear bb bm hsum hS
        by_cases hms : m = S
        · have hrc : rcL (n :: t) = match ipL (t.take n) with
              | none => .inl 4
              | some x => .inr (x, n + 5) := by
            simp only [rcL]; rw [if_neg hc1, if_neg hc2, if_neg hsh, if_neg (fun h => h ((unhide HSUM).2 hms))]
            cases ipL (t.take n) <;> rfl
          rw [← unhide BB] at hrc
          have HRC := hide hrc
          have hq : m.toList = S.toList := by rw [hms]
          clear hms hrc
          go_wp2_with fail
          go_region_with (go_at_call 76; refine (unhide H76 _).mono ?_; rintro e w1 ⟨rfl, f1⟩; have F1 := hide (show Fr (fun _ => False) wr w1 (fun _ => False) from ⟨f1.os, f1.tape, f1.output, f1.size, f1.same, f1.old⟩); clear f1)
          all_goals
            go_wp2_with fail
            go_at_call 77
            refine (unhide HPD b (by omega) _).mono ?_
            rintro e w2 ⟨f2, hm⟩
            have f2' : Fr (fun _ => False) w1 w2 (fun _ => False) := ⟨f2.os, f2.tape, f2.output, f2.size, f2.same, f2.old⟩
            have f12 := (unhide F1).trans f2'
            cases hip : ipL (bs b) with
            | none =>
              rw [hip] at hm
              obtain ⟨x1, x2, x3, fa, fn, fc, rfl⟩ := hm
              have hrc := unhide HRC
              rw [hip] at hrc
              have HP := hide (unhide POSTW (w2.alloc (.cells #[.int .i64 x1, .int .i64 x2, .int .i64 x3, .slice fa fn fc] 49)) (f12.alloc _) 4 hrc)
              clear hip hrc f12 f2 f2'
              go_wp2
              exact bodyPost_ret (v := .tuple #[.slice a ps.length c, .int .i64 at_, .int .i64 4]) (by simp [results, Tryz.results43, go_sem]) rfl (unhide HP)
            | some x =>
              rw [hip] at hm
              obtain ⟨fv, rfl, hints⟩ := hm
              have hrc := unhide HRC
              rw [hip] at hrc
              obtain ⟨xk, xo, xn, xf⟩ := x
              obtain ⟨fa, fc, hfv, _⟩ := id hints
              simp only at hfv
              subst hfv
              have hlow : ∀ q, own (.slice a ps.length c) q → q < wr.heap.size := fun q hq => (World.ownsRow.lt (unhide HDI).row q hq).2
              have hz12 : wr.heap.size ≤ w1.heap.size := (unhide F1).size
              have hz22 : w1.heap.size ≤ w2.heap.size := f2'.size
              have f14 : Fr (fun _ => False) wr ((w2.alloc (.cells #[.int .i64 (xk : Nat), .int .i64 (xo : Nat), .int .i64 (xn : Nat), .slice fa (zs xf).length fc] 49)).alloc (.cells #[.int .i64 (xk : Nat), .int .i64 (xo : Nat), .int .i64 (xn : Nat), .slice fa (zs xf).length fc] 49)) (fun _ => False) := (f12.alloc _).alloc _
              have d4 := (unhide HDI).fr f14
              have hB : w.heap.size ≤ wr.heap.size := (unhide HFR).size
              have i4 : IntsIn ((w2.alloc (.cells #[.int .i64 (xk : Nat), .int .i64 (xo : Nat), .int .i64 (xn : Nat), .slice fa (zs xf).length fc] 49)).alloc (.cells #[.int .i64 (xk : Nat), .int .i64 (xo : Nat), .int .i64 (xn : Nat), .slice fa (zs xf).length fc] 49)) (.slice fa (zs xf).length fc) (zs xf) (fun q => w.heap.size ≤ q ∧ q < ((w2.alloc (.cells #[.int .i64 (xk : Nat), .int .i64 (xo : Nat), .int .i64 (xn : Nat), .slice fa (zs xf).length fc] 49)).alloc (.cells #[.int .i64 (xk : Nat), .int .i64 (xo : Nat), .int .i64 (xn : Nat), .slice fa (zs xf).length fc] 49)).heap.size ∧ ¬ own (.slice a ps.length c) q) :=
                intsIn_kept hints (fun q hq => (Below.heap_alloc _ _ _ (by simp; omega)).trans (Below.heap_alloc _ _ _ hq.2)) (fun q hq => ⟨by have h1 : w1.heap.size ≤ q := hq.1; omega, by have := hq.2; simp; omega, fun ho => by have h1 : w1.heap.size ≤ q := hq.1; have := hlow q ho; omega⟩)
              have nb : ((w2.alloc (.cells #[.int .i64 (xk : Nat), .int .i64 (xo : Nat), .int .i64 (xn : Nat), .slice fa (zs xf).length fc] 49)).alloc (.cells #[.int .i64 (xk : Nat), .int .i64 (xo : Nat), .int .i64 (xn : Nat), .slice fa (zs xf).length fc] 49)).heap[w2.heap.size + 1]? = some (.cells #[.int .i64 (xk : Nat), .int .i64 (xo : Nat), .int .i64 (xn : Nat), .slice fa (zs xf).length fc] 49) := by
                have h := heap_alloc_new (w2.alloc (.cells #[.int .i64 (xk : Nat), .int .i64 (xo : Nat), .int .i64 (xn : Nat), .slice fa (zs xf).length fc] 49)) (.cells #[.int .i64 (xk : Nat), .int .i64 (xo : Nat), .int .i64 (xn : Nat), .slice fa (zs xf).length fc] 49)
                rwa [show (w2.alloc (.cells #[.int .i64 (xk : Nat), .int .i64 (xo : Nat), .int .i64 (xn : Nat), .slice fa (zs xf).length fc] 49)).heap.size = w2.heap.size + 1 by simp] at h
              have n0 : ((w2.alloc (.cells #[.int .i64 (xk : Nat), .int .i64 (xo : Nat), .int .i64 (xn : Nat), .slice fa (zs xf).length fc] 49)).alloc (.cells #[.int .i64 (xk : Nat), .int .i64 (xo : Nat), .int .i64 (xn : Nat), .slice fa (zs xf).length fc] 49)).heap[w2.heap.size]? = some (.cells #[.int .i64 (xk : Nat), .int .i64 (xo : Nat), .int .i64 (xn : Nat), .slice fa (zs xf).length fc] 49) := (Below.heap_alloc _ _ _ (by simp)).trans (heap_alloc_new _ _)
              have hn2 : ¬ own (.slice a ps.length c) w2.heap.size := fun h => by have := hlow _ h; omega
              have D4 := hide d4
              have I4 := hide i4
              have NB := hide nb
              have N0 := hide n0
              have F14 := hide f14
              have HRC2 := hide (show rcL (n :: t) = .inr ((xk, xo, xn, xf), n + 5) from hrc)
              clear hip hrc f12 f2 f2' hints d4 i4 nb n0 f14 hlow
              have hz4 : w.heap.size ≤ ((w2.alloc (.cells #[.int .i64 (xk : Nat), .int .i64 (xo : Nat), .int .i64 (xn : Nat), .slice fa (zs xf).length fc] 49)).alloc (.cells #[.int .i64 (xk : Nat), .int .i64 (xo : Nat), .int .i64 (xn : Nat), .slice fa (zs xf).length fc] 49)).heap.size := by simp; omega
              by_cases hk5 : xk = 5
              · subst hk5
                have fin : ∀ (av : Option Addr) (cv : Nat) (w3 : World), w3.ownsRow w.heap.size 49 4 (.slice av (ps.length + 1) cv) (ps.length + 1) (flatP ps ++ [.int .i64 (5 : Nat), .int .i64 (xo : Nat), .int .i64 (xn : Nat), .slice fa (zs xf).length fc]) → Fr (own (.slice a ps.length c)) ((w2.alloc (.cells #[.int .i64 (5 : Nat), .int .i64 (xo : Nat), .int .i64 (xn : Nat), .slice fa (zs xf).length fc] 49)).alloc (.cells #[.int .i64 (5 : Nat), .int .i64 (xo : Nat), .int .i64 (xn : Nat), .slice fa (zs xf).length fc] 49)) w3 (own (.slice av (ps.length + 1) cv)) → RdPost s w (.returned (.tuple #[.slice av (ps.length + 1) cv, .int .i64 ((at_ : Int) + 5 + (n : Int)), .int .i64 (if at_ + 5 + n < s.size then 5 else 1)])) w3 := fun av cv w3 o3 f3 => by
                  have hdn := (unhide D4).grow (5, xo, xn, xf) (.slice fa (zs xf).length fc) (unhide I4) o3 f3
                  have hfr3 := ((unhide HFR).trans (unhide F14)).fresh f3 (fun k hk => (World.ownsRow.lt (unhide D4).row k hk).1)
                  have hrd := unhide HRD
                  rw [unhide HDR, rd_end f (n :: t) at_ (5, xo, xn, xf) (n + 5) (unhide HRC2) rfl] at hrd
                  have hl : ps.length + 1 = (ps ++ [(((5, xo, xn, xf) : Inp), Value.slice fa (zs xf).length fc)]).length := by rw [List.length_append]; rfl
                  have ed : ((n :: t).drop (n + 5) = []) ↔ ¬ at_ + 5 + n < s.size := by
                    rw [← unhide HDR, List.drop_drop, List.drop_eq_nil_iff, bs_len]; omega
                  refine ⟨av, cv, _, ?_, by rw [← hl]; exact hdn, by rw [hrd, List.map_append]; rfl, hfr3⟩
                  rw [hrd, ← hl]
                  have e1 : (((at_ + (n + 5) : Nat)) : Int) = (at_ : Int) + 5 + (n : Int) := by omega
                  simp only [e1]
                  by_cases hq5 : at_ + 5 + n < s.size
                  · rw [if_pos hq5, if_neg (fun h => (ed.1 h) hq5)]; rfl
                  · rw [if_neg hq5, if_pos (ed.2 hq5)]; rfl
                have FIN := hide fin
                clear fin
                by_cases hend : at_ + 5 + n < s.size
                · have hendi : (at_ : Int) + 5 + (n : Int) < (s.size : Int) := by omega
                  go_wp2_with (at_builtin; refine wpList_growB elemIn (by omega) (by omega) (B := w.heap.size) (n := ps.length) (m := 1) (xs := flatP ps) (news := [.int .i64 (5 : Nat), .int .i64 (xo : Nat), .int .i64 (xn : Nat), .slice fa (zs xf).length fc]) rfl (.tmp 94) (.tmp 96) rfl (ad := ⟨w2.heap.size + 1, 0, none⟩) (cap := 1) rfl rfl (unhide D4).row rfl (World.news_of_block (unhide NB)) (by simp [Value.oneCell']) (by omega) (by omega) hz4 ?_; intro v3 w3 o3 f3 sh3; obtain ⟨av, cv, rfl⟩ := sh3; have kc := (f3.cell w2.heap.size 0 (by simp; omega) hn2).trans (cell_of_row _ _ 0 _ 49 (0, 0) (unhide N0)); have O3 := hide o3; have F3 := hide f3; clear o3 f3)
                  have h := unhide FIN av cv w3 (unhide O3) (unhide F3)
                  rw [if_pos hend] at h
                  exact bodyPost_ret (v := .tuple #[.slice av (ps.length + 1) cv, .int .i64 ((at_ : Int) + 5 + (n : Int)), .int .i64 5]) (by simp [results, Tryz.results43, go_sem]) rfl h
                · have hendi : ¬ (at_ : Int) + 5 + (n : Int) < (s.size : Int) := by omega
                  go_wp2_with (at_builtin; refine wpList_growB elemIn (by omega) (by omega) (B := w.heap.size) (n := ps.length) (m := 1) (xs := flatP ps) (news := [.int .i64 (5 : Nat), .int .i64 (xo : Nat), .int .i64 (xn : Nat), .slice fa (zs xf).length fc]) rfl (.tmp 94) (.tmp 96) rfl (ad := ⟨w2.heap.size + 1, 0, none⟩) (cap := 1) rfl rfl (unhide D4).row rfl (World.news_of_block (unhide NB)) (by simp [Value.oneCell']) (by omega) (by omega) hz4 ?_; intro v3 w3 o3 f3 sh3; obtain ⟨av, cv, rfl⟩ := sh3; have kc := (f3.cell w2.heap.size 0 (by simp; omega) hn2).trans (cell_of_row _ _ 0 _ 49 (0, 0) (unhide N0)); have O3 := hide o3; have F3 := hide f3; clear o3 f3)
                  have h := unhide FIN av cv w3 (unhide O3) (unhide F3)
                  rw [if_neg hend] at h
                  exact bodyPost_ret (v := .tuple #[.slice av (ps.length + 1) cv, .int .i64 ((at_ : Int) + 5 + (n : Int)), .int .i64 1]) (by simp [results, Tryz.results43, go_sem]) rfl h
              · have hk5i : ((xk : Int) == 5) = false := by simp; omega
                go_wp2_with (at_builtin; refine wpList_growB elemIn (by omega) (by omega) (B := w.heap.size) (n := ps.length) (m := 1) (xs := flatP ps) (news := [.int .i64 (xk : Nat), .int .i64 (xo : Nat), .int .i64 (xn : Nat), .slice fa (zs xf).length fc]) rfl (.tmp 94) (.tmp 96) rfl (ad := ⟨w2.heap.size + 1, 0, none⟩) (cap := 1) rfl rfl (unhide D4).row rfl (World.news_of_block (unhide NB)) (by simp [Value.oneCell']) (by omega) (by omega) hz4 ?_; intro v3 w3 o3 f3 sh3; obtain ⟨av, cv, rfl⟩ := sh3; have kc := (f3.cell w2.heap.size 0 (by simp; omega) hn2).trans (cell_of_row _ _ 0 _ 49 (0, 0) (unhide N0)); have O3 := hide o3; have F3 := hide f3; clear o3 f3)
                have hdn := (unhide D4).grow (xk, xo, xn, xf) (.slice fa (zs xf).length fc) (unhide I4) (unhide O3) (unhide F3)
                refine ⟨⟨at_ + 5 + n, f, av, cv, ps ++ [((xk, xo, xn, xf), .slice fa (zs xf).length fc)], rfl, by rw [List.length_append]; rfl, by omega, by omega, by rw [List.length_append]; simp; omega, by omega, by rw [List.length_append]; exact hdn, ((unhide HFR).trans (unhide F14)).fresh (unhide F3) (fun k hk => (World.ownsRow.lt (unhide D4).row k hk).1), ?_⟩, by simp [intOf]; omega⟩
                rw [unhide HRD, unhide HDR, rdL_step f (n :: t) at_ (xk, xo, xn, xf) (n + 5) (unhide HRC2) hk5]
                have ed : (n :: t).drop (n + 5) = (bs s).drop (at_ + 5 + n) := by rw [← unhide HDR, List.drop_drop]; congr 1; omega
                rw [ed, show at_ + (n + 5) = at_ + 5 + n by omega, List.map_append, List.append_assoc]
                rfl
        · have hq := str_ne hms
          have hq2 : (m.toList == S.toList) = false := by simpa using hq
          have HP := hide (fun W hW => unhide POSTW W hW 3 (by simp only [rcL]; rw [if_neg hc1, if_neg hc2, if_neg hsh, if_pos (fun h => hms ((unhide HSUM).1 h))]))
          clear hms
          go_wp2_with fail
          go_region_with (go_at_call 76; refine (unhide H76 _).mono ?_; rintro e w1 ⟨rfl, f1⟩; have F1 := hide (show Fr (fun _ => False) wr w1 (fun _ => False) from ⟨f1.os, f1.tape, f1.output, f1.size, f1.same, f1.old⟩); clear f1)
          all_goals
            go_wp2
            exact bodyPost_ret (v := .tuple #[.slice a ps.length c, .int .i64 at_, .int .i64 3]) (by simp [results, Tryz.results43, go_sem]) rfl (unhide HP _ (unhide F1))
      · have hlti : ¬ (at_ : Int) < (s.size : Int) := by omega
        have hr : rdL f ((bs s).drop at_) at_ = ([], at_, 2) := by
          rw [bs_end s at_ (by omega)]
          cases f with
          | zero => rfl
          | succ f => rfl
        have HP := hide (rd_post (unhide HRD) hr (unhide HDI) (unhide HFR))
        clear hr
        go_wp2
        exact bodyPost_ret (v := .tuple #[.slice a ps.length c, .int .i64 at_, .int .i64 2]) (by simp [results, Tryz.results43, go_sem]) rfl (unhide HP)
  · have hnp : ¬ hd3 <+: bs s := by
      rintro ⟨r, hr⟩
      apply hh
      apply bs_inj
      rw [bs_sub, List.drop_zero, ← hr]
      rfl
    have hnq : ¬ bs s <+: hd3 := by
      intro h
      have h1 := h.length_le
      rw [bs_len] at h1
      have e3 : hd3.length = 3 := rfl
      have h2 : s.size = 3 := by omega
      have h4 : bs s = hd3 := h.eq_of_length (by rw [bs_len, e3, h2])
      exact hnp (by rw [h4]; exact List.prefix_refl _)
    have hrd : readL (bs s) = ([], 0, 4) := by unfold readL; rw [if_neg hnp, if_neg hnq]
    have HP : Hid (RdPost s w (.returned (.tuple #[.slice none 0 0, .int .i64 0, .int .i64 4])) w) := ⟨none, 0, [], by rw [hrd]; rfl, DIns.nil _ _, by rw [hrd]; rfl, Fr.refl _ _⟩
    have hq : ((s.extract 0 3).toList == [82, 82, 49]) = false := by
      have h := str_ne hh
      rw [show (⟨#[82, 82, 49]⟩ : ByteArray).toList = [82, 82, 49] by rw [Go.ByteArray.toList_eq]] at h
      simpa using h
    clear hnp hnq hrd hh
    go_enter Tryz.func43, Tryz.ntmps43
    go_wp2
    exact bodyPost_ret (v := .tuple #[.slice none 0 0, .int .i64 0, .int .i64 4]) (by simp [results, Tryz.results43, go_sem]) rfl (unhide HP)
end Go.Proofs.YtfmbebofllgmoaaGreatDoor
