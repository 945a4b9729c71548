/-
  PROVED HERE: due lists the timers that are armed and due, sorted by time and arming. the loop's pick, over a source that keeps its word. the loop's handle runs a handler as the model (hM) says, over a source that keeps its word. what the numbers of a run keep while a handler runs; the model of waking the ready files. slices.Delete of one element of a list of integers of the call's own. wakeReady wakes the ready files as the model (wkM) says, over a source that keeps its word. fireDue lets the timers that are due go off as the model (frM) says, over a source that keeps its word. the model of a turn and of a run, and what the numbers of a run keep. world.modulo, world.heard, world.files. the reference's varint. the reference's Sum and Frame. the reference's Body. slices of bytes that are a writer's own; the log's appendVarint, sum and appendSum. a slice of one's own grows: what else lies in memory stays as it is. the reader's varint. the reader's row of varints. the reader's look at a batch's files. the reader's input: what is none. the log's body of an input, by kind. laws for walking a function that sends and receives in one goroutine: from each place of its text to its return. world.filled makes a channel that holds the list and is closed: of numbers and of lists. the log's writer: Heard writes a record, End the last one. turn takes a turn as the model (turnM) says, over a source that keeps its word.
-/
import Derived.Test.YtfmbebofllgmoaaGreatDoorProg
import Derived.WalkKit
import Derived.WalkSpells
import Derived.WalkLawsBesides
import Derived.Deep.QuietTactic
import Derived.BigQuiet
import Derived.Deep.RegionHeld3
import Derived.Deep.AppendLies
import Derived.Laws.EntriesVeiled
import Derived.Deep.DrawnRows
import Derived.BigRegion
import Derived.Deep.LoopGhost
import Derived.Deep.MidRow
import Derived.Shelf.SlSortCmp.SmallK
import Derived.Shelf.SlicesG.Cmp
import Derived.Shelf.Small.Bits
import Derived.Deep.RegionLaw
import Derived.Lib.SliceRun
import Derived.Laws.StructEq
import Derived.Laws.BytesString
import Derived.ArgAppend
import Derived.Deep.DeepCutAuto
import Derived.Conc.LoneCalls
import Derived.Calls
import Derived.Tactics
import Derived.KernelRfl
import Derived.Laws.Rows
import Derived.Test.YtfmbebofllgmoaaGreatDoorSrecordsa
namespace Go.Proofs.YtfmbebofllgmoaaGreatDoor
open Go.RowKit Go.Sort
attribute [local go_sem ↓] Go.wp_at_zero Go.wp_at_succ

theorem info141 : ∃ i, Tryz.prog.info? 126 = some i ∧ i.zero = some (.agg #[.bool false, .int .i64 0, .int .i64 0, .int .i64 0]) ∧ i.size = 4 ∧ i.bytes = 32 := by
  have h : (Tryz.prog.info? 126).map (fun i => (i.zero, i.size, i.bytes)) = some (some (.agg #[.bool false, .int .i64 0, .int .i64 0, .int .i64 0]), 4, 32) := by kernel_rfl
  cases hi : Tryz.prog.info? 126 with
  | none => rw [hi] at h; cases h
  | some i =>
    rw [hi] at h
    simp only [Option.map_some, Option.some.injEq, Prod.mk.injEq] at h
    exact ⟨i, rfl, h.1, h.2.1, h.2.2⟩

def flatT : List TM → List Value
  | [] => []
  | t :: r => encT t ++ flatT r
theorem flatT_append (a b : List TM) : flatT (a ++ b) = flatT a ++ flatT b := by
  induction a with
  | nil => rfl
  | cons x r ih => simp [flatT, ih]
theorem flatT_get (a : List TM) (i c : Nat) (hi : i < a.length) (hc : c < 4) : (flatT a)[i * 4 + c]? = (encT (a.getD i (false, 0, 0, 0)))[c]? := by
  induction a generalizing i with
  | nil => simp at hi
  | cons x r ih =>
    cases i with
    | zero =>
      rw [flatT, List.getElem?_append_left (by simp [encT]; omega)]
      simp
    | succ i =>
      rw [flatT, List.getElem?_append_right (by simp [encT]; omega)]
      have e : (i + 1) * 4 + c - (encT x).length = i * 4 + c := by simp [encT]; omega
      rw [e, ih i (by simpa using hi)]
      simp
/-- A list of timers of the call's own. -/
def OwnT (w : World) (B : Nat) (v : Value) (l : List TM) : Prop := w.ownsRow B 126 4 v l.length (flatT l)

theorem wpList_timer {ops : Array Oper} {rest : List Oper} {o : Oper} {a : Act} {Q : Exit → Act → World → Prop} {w : World} {B : Nat} {v : Value} {l : List TM} (hgd : o.guard = none) (sv xv : Operand)
    (ho : o.op = .call { callee := .builtin .append, args := #[sv, xv], argTypes := #[192, 192] }) {p : Bool} {x y z : Int}
    (hs : a.eval sv = v) (hx : a.eval xv = .slice (some ⟨w.heap.size, 0, none⟩) 1 1) (hrow : OwnT w B v l) (hn : l.length ≤ 1000) (hB : B ≤ w.heap.size)
    (h : ∀ v' w', OwnT w' B v' (l ++ [(p, x, y, z)]) → (w.alloc (.cells #[.bool p, .int .i64 x, .int .i64 y, .int .i64 z] 126)).grownBy w' v.ownBlock → wpList Tryz.prog ops Q rest (a.put o.dst v') w') :
    wpList Tryz.prog ops Q (o :: rest) a (w.alloc (.cells #[.bool p, .int .i64 x, .int .i64 y, .int .i64 z] 126)) := by
  obtain ⟨i, hi, hz, hs1, hby⟩ := info141
  have hb' : B ≤ (w.alloc (.cells #[.bool p, .int .i64 x, .int .i64 y, .int .i64 z] 126)).heap.size := by simp; omega
  have hm : l.length + 1 ≤ maxLen := by simp only [maxLen]; omega
  have hby' : (l.length + 1) * 32 ≤ 140737488355328 := by omega
  have hone : ∀ u ∈ [Value.bool p, .int .i64 x, .int .i64 y, .int .i64 z], u.oneCell' = true := by simp [Value.oneCell']
  have hsz : (w.alloc (.cells #[.bool p, .int .i64 x, .int .i64 y, .int .i64 z] 126)).heap.size = w.heap.size + 1 := by simp
  refine wpList_append_lies _ hgd sv xv 192 ho B 126 i _ 4 32 Tryz.underlying192 hi hz hs1 hby rfl (by omega) v l.length _ hs (hrow.alloc _) ⟨w.heap.size, 0, none⟩ 1 1 [.bool p, .int .i64 x, .int .i64 y, .int .i64 z] hx rfl
    (World.news_of_block (heap_alloc_new w _)) hone (by omega) hm hby' hb' (w.heap.size + 1) hsz ?_
  intro g cap w' h1 h2 _ _
  refine h _ w' ?_ h2
  unfold OwnT
  rw [List.length_append, flatT_append]
  exact h1

/-- The first k timers, those of them that are armed and due. -/
def dueK (s : PS) (k : Nat) : List TM := ((List.range k).map s.tim).filter fun t => t.1 && decide (t.2.1 ≤ s.clock)
theorem dueK_succ (s : PS) (k : Nat) : dueK s (k + 1) = dueK s k ++ (if (s.tim k).1 && decide ((s.tim k).2.1 ≤ s.clock) then [s.tim k] else []) := by
  unfold dueK
  rw [List.range_succ, List.map_append, List.filter_append]
  congr 1
  simp [List.filter_cons]
theorem dueK_length (s : PS) (k : Nat) : (dueK s k).length ≤ k := by
  unfold dueK
  have := List.length_filter_le (fun t : TM => t.1 && decide (t.2.1 ≤ s.clock)) ((List.range k).map s.tim)
  simpa using this
/-- The timers that are due, in the order in which they go off. -/
def dueS (s : PS) : List TM := (Sort.insertionSort (ltOf cfT) (dueK s 8).toArray 0 (dueK s 8).length).toList

/-- A list of timers in memory, in a block of P. -/
def TimsIn (w : World) (v : Value) (l : List TM) (P : Nat → Prop) : Prop :=
  ∃ a c, v = .slice a l.length c ∧ (l = [] ∨ ∃ g, a = some ⟨g, 0, none⟩ ∧ P g ∧ ∀ i, i < l.length → ∀ c, c < 4 → w.cell? ⟨g, i * 4 + c, none⟩ = some (timV (l.getD i (false, 0, 0, 0)) c))

theorem box4 (w : World) (p : Bool) (x y z : Int) (n : Nat) : ((w.alloc (.cells #[.bool p, .int .i64 x, .int .i64 y, .int .i64 z] 126)).drewN n).cell? ⟨w.heap.size, 0, none⟩ = some (.bool p) ∧
    ((w.alloc (.cells #[.bool p, .int .i64 x, .int .i64 y, .int .i64 z] 126)).drewN n).cell? ⟨w.heap.size, 1, none⟩ = some (.int .i64 x) ∧
    ((w.alloc (.cells #[.bool p, .int .i64 x, .int .i64 y, .int .i64 z] 126)).drewN n).cell? ⟨w.heap.size, 2, none⟩ = some (.int .i64 y) ∧
    ((w.alloc (.cells #[.bool p, .int .i64 x, .int .i64 y, .int .i64 z] 126)).drewN n).cell? ⟨w.heap.size, 3, none⟩ = some (.int .i64 z) := by
  have h : ((w.alloc (.cells #[.bool p, .int .i64 x, .int .i64 y, .int .i64 z] 126)).drewN n).heap[w.heap.size]? = some (.cells #[.bool p, .int .i64 x, .int .i64 y, .int .i64 z] 126) := heap_alloc_new w _
  exact ⟨cell_of_row _ _ 0 _ 126 (0, 0) h, cell_of_row _ _ 1 _ 126 (0, 0) h, cell_of_row _ _ 2 _ 126 (0, 0) h, cell_of_row _ _ 3 _ 126 (0, 0) h⟩

theorem encT_get (t : TM) (c : Nat) (hc : c < 4) : (encT t)[c]? = some (timV t c) := by
  have h : c = 0 ∨ c = 1 ∨ c = 2 ∨ c = 3 := by omega
  rcases h with rfl | rfl | rfl | rfl <;> rfl
theorem holds_of_own {w : World} {B g n cap : Nat} {l : List TM} (h : OwnT w B (.slice (some ⟨g, 0, none⟩) n cap) l) : HoldsK encT 4 w g 0 l.toArray ∧ g < w.heap.size ∧ B ≤ g := by
  rcases h.2 with ⟨hv, _⟩ | ⟨g', cap', cur, hv, hB, hg, h1, h2, h3, h4⟩
  · cases hv
  cases hv
  refine ⟨fun j hj => ?_, (h.lt g rfl).2, hB⟩
  have hj' : j < l.length * 4 := by simpa using hj
  rw [Nat.zero_add, get_flatK _ _ _ _ (by simpa using hj')]
  have hf := flatT_get l (j / 4) (j % 4) (by omega) (by omega)
  rw [show j / 4 * 4 + j % 4 = j by omega, encT_get _ _ (by omega)] at hf
  constructor
  · rw [cell_of_row w g j cur 126 (0, 0) hg]
    have h5 := congrArg (fun q : List Value => q[j]?) h4
    simp only [List.getElem?_take, hj', if_true, Array.getElem?_toList] at h5
    rw [h5, hf]
    have e1 : l.toArray[j / 4]! = l.getD (j / 4) (false, 0, 0, 0) := by
      have : j / 4 < l.length := by omega
      simp [List.getD, this]
    rw [e1]
    have e2 := encT_get (l.getD (j / 4) (false, 0, 0, 0)) (j % 4) (by omega)
    simp only [id]
    rw [List.getElem!_eq_getElem?_getD, e2]
    rfl
  · simp [World.frozen?, hg]
theorem tims_of_holds {w : World} {g cap : Nat} {d : Array TM} {P : Nat → Prop} (h : HoldsK encT 4 w g 0 d) (hP : P g) : TimsIn w (.slice (some ⟨g, 0, none⟩) d.size cap) d.toList P := by
  refine ⟨some ⟨g, 0, none⟩, cap, by simp, .inr ⟨g, rfl, hP, fun i hi c hc => ?_⟩⟩
  have h1 := (h.cell (i := i) (c := c) (by simpa using hi) hc).1
  rw [Nat.zero_add] at h1
  rw [h1, List.getElem!_eq_getElem?_getD, encT_get _ _ hc]
  have e1 : d[i]! = d.toList.getD i (false, 0, 0, 0) := by
    have : i < d.size := by simpa using hi
    simp [List.getD, this]
  rw [e1]
  rfl

section
variable {σ : Type} {SA : (Nat → Prop) → World → σ → Prop} {B : Nat} {S T : Nat → Prop} {w : World} {b : Nat} {pv : Nat → Value} {vt : Value} {s : PS} {x : σ}

set_option maxHeartbeats 2000000 in
theorem due_any (L : SrcLaw SA) (h : RI SA B S w b pv vt T s x) :
    Calls Tryz.prog 116 #[.pointer (some ⟨b, 0, none⟩)] w fun e w' => ∃ v, e = .returned v ∧ TimsIn w' v (dueS s) (fun g => w.heap.size ≤ g ∧ g < w'.heap.size ∧ ¬ S g) ∧ RI SA B S w' b pv vt T s x ∧ Fr S w w' S := by
  have hra := hide h.range
  have hlen : (timL s.tim).length = 32 := timL_length _
  have hinf : (Tryz.prog.info? 127).map (·.size) = some (timL s.tim).length := by rw [hlen]; exact info142
  have hix := index_tim s.tim
  have hSz : ∀ k, S k → k < w.heap.size := fun k hk => (h.bound k hk).2
  have H := hide h
  have HL := hide hinf
  have HX := hide hix
  have HZ := hide hSz
  clear h hinf hix hlen hSz
  generalize hA : timL s.tim = A at *
  have HA := hide hA
  clear hA
  go_enter Tryz.func116, Tryz.ntmps116
  go_wp2_with (refine wpList_load_mid rfl 127 (.tmp 8) rfl b 23 rfl A _ (unhide hra) Tryz.underlying127 rfl (unhide HL) ?_)
  clear HL hra
  go_loopw [3, 10] (fun u i wr => ∃ k : Nat, k ≤ 8 ∧ i = .int .i64 k ∧ OwnT wr w.heap.size u (dueK s k) ∧ RI SA B S wr b pv vt T s x ∧ Fr S w wr S) (fun _ i _ => 8 - (intOf i).toNat)
  case atStart => exact ⟨0, Nat.zero_le _, rfl, World.ownsRow_nil _ _ _ _, unhide H, Fr.refl S w⟩
  case round =>
    obtain ⟨k, hk, rfl, ho, r1, r2⟩ := hrel
    by_cases hlt : k < 8
    · have ix := fun w => (unhide HX) k hlt w
      have hsu := dueK_succ s k
      have hle := dueK_length s k
      have cc := (r1.cell 22 (by omega)).trans (by rw [img_clock])
      have hbw := (r1.bound b r1.inB).2
      obtain ⟨n1, n2⟩ := ne_size hbw
      have hsz : w.heap.size ≤ wr.heap.size := r2.size
      have HNE := hide (ho.lt)
      have HO := hide ho
      have R1 := hide r1
      have R2 := hide r2
      have HSU := hide hsu
      have HLE := hide hle
      clear r1 r2 ho hsu hle
      generalize hgt : s.tim k = t at *
      obtain ⟨t0, t1, t2, t3⟩ := t
      simp only at ix
      have HGT := hide hgt
      clear hgt
      cases t0
      · go_wp2
        go_quiet (fail)
        go_wp2
        go_roundw
        case rel =>
          refine ⟨k + 1, by omega, by go_num, ?_, ((unhide R1).alloc L _).drewN L nq, ((unhide R2).alloc _).drewN nq⟩
          rw [unhide HSU]
          simp only [Bool.false_and, Bool.false_eq_true, if_false, List.append_nil]
          exact ((unhide HO).alloc _)
        case measure => simp [intOf]; omega
      · by_cases hdue : t1 ≤ s.clock
        · have hd : decide (t1 ≤ s.clock) = true := by simpa using hdue
          go_wp2
          go_quiet (fail)
          obtain ⟨e0, e1, e2, e3⟩ := box4 wr true t1 t2 t3 nq
          have q1 := hide (((unhide R1).alloc L (.cells #[.bool true, .int .i64 t1, .int .i64 t2, .int .i64 t3] 126)).drewN L nq)
          have q2 := hide (((unhide R2).alloc (.cells #[.bool true, .int .i64 t1, .int .i64 t2, .int .i64 t3] 126)).drewN nq)
          have q3 := hide (show OwnT ((wr.alloc (.cells #[.bool true, .int .i64 t1, .int .i64 t2, .int .i64 t3] 126)).drewN nq) w.heap.size u3 (dueK s k) from (unhide HO).alloc _)
          generalize (wr.alloc (.cells #[.bool true, .int .i64 t1, .int .i64 t2, .int .i64 t3] 126)).drewN nq = W1 at *
          have hsz1 : w.heap.size ≤ W1.heap.size := (unhide q2).size
          go_wp2_with (at_builtin; refine wpList_timer rfl (.tmp 24) (.tmp 26) rfl rfl rfl (unhide q3) (by have := unhide HLE; omega) hsz1 ?_; intro v' w' o' g')
          go_roundw
          case rel =>
            have hro : ∀ j, Value.ownBlock u3 = some j → w.heap.size ≤ j := fun j hj => ((unhide HNE) j hj).1
            refine ⟨k + 1, by omega, by go_num, ?_, ((unhide q1).alloc L _).grown L g' (fun j hj hs => ?_), ((unhide q2).alloc _).grown g' hro⟩
            · rw [unhide HSU, hd]
              simpa using o'
            · have h1 := hro j hj
              have h2 := unhide HZ j hs
              omega
          case measure => simp [intOf]; omega
        · have hd : decide (t1 ≤ s.clock) = false := by simpa using hdue
          go_wp2
          go_quiet (fail)
          go_wp2
          go_roundw
          case rel =>
            refine ⟨k + 1, by omega, by go_num, ?_, ((unhide R1).alloc L _).drewN L nq, ((unhide R2).alloc _).drewN nq⟩
            rw [unhide HSU, hd]
            simp only [Bool.and_false, Bool.false_eq_true, if_false, List.append_nil]
            exact ((unhide HO).alloc _)
          case measure => simp [intOf]; omega
    · obtain rfl : k = 8 := by omega
      have hsh : (u3 = .slice none 0 0 ∧ (dueK s 8).length = 0) ∨ ∃ g cap, u3 = .slice (some ⟨g, 0, none⟩) (dueK s 8).length cap := by
        rcases ho.2 with hv | ⟨g, cap, cur, hv, _⟩
        · exact .inl hv
        · exact .inr ⟨g, cap, hv⟩
      rcases hsh with ⟨rfl, h0⟩ | ⟨g, cap, rfl⟩
      · have hd : dueS s = [] := by
          have h1 := List.length_eq_zero_iff.1 h0
          unfold dueS
          have h2 := sorted_size (dueK s 8).toArray
          rw [h1] at h2 ⊢
          exact List.length_eq_zero_iff.1 h2
        have R1 := hide r1
        have R2 := hide r2
        have HD := hide hd
        have hs := fun fv => sort_nil fv wr
        have HS := hide hs
        clear r1 r2 ho h0 hd hs
        go_wp2_with (go_at_call 134; refine (unhide HS _).mono ?_; rintro e w' ⟨rfl, rfl⟩)
        go_ret
        exact ⟨_, rfl, ⟨none, 0, by rw [unhide HD]; rfl, .inl (unhide HD)⟩, unhide R1, unhide R2⟩
      · obtain ⟨hh, hg, hB⟩ := holds_of_own ho
        have hs := sort_any g 0 cap (dueK s 8).toArray wr hh hg (by have := dueK_length s 8; simp; omega)
        have hz := sorted_size (dueK s 8).toArray
        have hgS : ¬ S g := fun hs => by have := (unhide HZ) g hs; omega
        have R1 := hide r1
        have R2 := hide r2
        have HS := hide hs
        have HH := hide hh
        have hds : dueS s = (Sort.insertionSort (ltOf cfT) (dueK s 8).toArray 0 (dueK s 8).toArray.size).toList := rfl
        generalize Sort.insertionSort (ltOf cfT) (dueK s 8).toArray 0 (dueK s 8).toArray.size = d' at *
        have hlen : (dueK s 8).length = d'.size := by simpa using hz.symm
        have HD := hide hds
        have HZS := hide hz
        have HLN := hide hlen
        clear r1 r2 ho hs hh hz hds hlen
        go_wp2_with (go_at_call 134; refine (unhide HS).mono ?_; rintro e w' ⟨rfl, n, os, hw'⟩; have HW := hide hw'; clear hw')
        go_ret
        obtain rfl := unhide HW
        have hsz := sortWorld_size wr g 0 n d' os
        have hbl := sortWorld_block wr g 0 n d' os
        have hfr : Fr S w (sortWorldK encT 4 wr g 0 n d' os) S := by
          have r2 := unhide R2
          exact ⟨r2.os, r2.tape, r2.output, Nat.le_trans r2.size hsz, fun q hq hn => (hbl q (Nat.lt_of_lt_of_le hq r2.size) (by omega)).trans (r2.same q hq hn), r2.old⟩
        refine ⟨_, rfl, ?_, (unhide R1).kept L (fun q hq => hbl q ((unhide R1).bound q hq).2 (fun e => hgS (e ▸ hq))) hsz, hfr⟩
        have ht := tims_of_holds (cap := cap) (P := fun q => w.heap.size ≤ q ∧ q < (sortWorldK encT 4 wr g 0 n d' os).heap.size ∧ ¬ S q) (sortWorld_holds wr g n _ d' os hg (unhide HH) (unhide HZS)) ⟨hB, Nat.lt_of_lt_of_le hg hsz, hgS⟩
        rw [unhide HD, unhide HLN]
        exact ht
end
end Go.Proofs.YtfmbebofllgmoaaGreatDoor
namespace Go.Proofs.YtfmbebofllgmoaaGreatDoor
open Go.RowKit
attribute [local go_sem ↓] Go.wp_at_zero Go.wp_at_succ

/-- What is heard of one question. -/
def hdS (s : PS) (R : Rep) : PS := if R.e = 0 then { s with heard := wrap64 (s.heard + 1) } else { s with fin := R.e }

section
variable {σ : Type} {SA : (Nat → Prop) → World → σ → Prop} {ask : σ → Int → Int → Rep × σ} {may : Int → Int → Prop} {B : Nat} {S T : Nat → Prop} {w : World} {b : Nat} {pv : Nat → Value} {vt : Value} {s : PS} {x : σ}

theorem pick_one {w : World} {v : Value} : Calls Tryz.prog 118 #[v, .int .i64 1] w fun e w' => e = .returned (.tuple #[.int .i64 0, .bool true]) ∧ w' = w := by
  go_enter Tryz.func118, Tryz.ntmps118
  go_wp2
  refine bodyPost_ret (v := .tuple #[.int .i64 0, .bool true]) (by simp [results, Tryz.results118, go_sem]) rfl ?_
  exact ⟨rfl, rfl⟩

set_option maxHeartbeats 1000000 in
theorem pick_any (L : SrcLaw SA) {rb tyS fnS : Nat} (K : HearSpec SA ask may B rb tyS fnS) (hp : pv 3 = .iface tyS (.pointer (some ⟨rb, 0, none⟩))) (h : RI SA B S w b pv vt T s x) (of : Int) (hm : may 3 of) (h1 : of ≠ 1) :
    Calls Tryz.prog 118 #[.pointer (some ⟨b, 0, none⟩), .int .i64 of] w fun e w' => e = .returned (.tuple #[.int .i64 (if (ask x 3 of).1.e = 0 then (ask x 3 of).1.n else 0), .bool (decide ((ask x 3 of).1.e = 0))]) ∧
      ∃ S' T', RI SA B S' w' b pv vt T' (hdS s (ask x 3 of).1) (ask x 3 of).2 ∧ Fr S w w' S' := by
  have hc := hear_any L K hp h 3 of hm
  generalize ask x 3 of = R at *
  obtain ⟨⟨rk, ro, rn, rf, re⟩, x'⟩ := R
  have hne : (of == 1) = false := by simpa using h1
  have HC := hide hc
  clear hc h hp hm h1
  by_cases hre : re = 0
  · have e2 : hdS s ⟨rk, ro, rn, rf, re⟩ = { s with heard := wrap64 (s.heard + 1) } := by simp [hdS, hre]
    rw [e2]
    have HRE := hide hre
    simp only [hre, if_true, decide_true]
    clear hre e2
    go_enter Tryz.func118, Tryz.ntmps118
    go_wp2_with (go_at_call 113; refine (unhide HC).mono ?_; rintro e w1 ⟨S', T', fv, r1, r2, r3⟩; rw [if_pos (unhide HRE)] at r1 r3; obtain ⟨r3, ri⟩ := r3; obtain ⟨fa, fc, rfl, _⟩ := ri; subst r3; have R1 := hide r1; have R2 := hide r2; clear r1 r2)
    refine bodyPost_ret (v := .tuple #[.int .i64 rn, .bool true]) (by simp [results, Tryz.results118, go_sem]) rfl ?_
    exact ⟨rfl, S', T', (unhide R1).alloc L _, (unhide R2).alloc _⟩
  · have e2 : hdS s ⟨rk, ro, rn, rf, re⟩ = { s with fin := re } := by simp [hdS, hre]
    rw [e2]
    have HRE := hide hre
    simp only [hre, if_false, decide_false]
    clear hre e2
    go_enter Tryz.func118, Tryz.ntmps118
    go_wp2_with (go_at_call 113; refine (unhide HC).mono ?_; rintro e w1 ⟨S', T', fv, r1, r2, r3⟩; rw [if_neg (unhide HRE)] at r1 r3; subst r3; have R1 := hide r1; have R2 := hide r2; clear r1 r2)
    refine bodyPost_ret (v := .tuple #[.int .i64 0, .bool false]) (by simp [results, Tryz.results118, go_sem]) rfl ?_
    exact ⟨rfl, S', T', (unhide R1).alloc L _, (unhide R2).alloc _⟩
end
end Go.Proofs.YtfmbebofllgmoaaGreatDoor
namespace Go.Proofs.YtfmbebofllgmoaaGreatDoor
open Go.RowKit
attribute [local go_sem ↓] Go.wp_at_zero Go.wp_at_succ

section
variable {σ : Type} {SA : (Nat → Prop) → World → σ → Prop} {ask : σ → Int → Int → Rep × σ} {may : Int → Int → Prop} {B : Nat} {S T : Nat → Prop} {w : World} {b : Nat} {pv : Nat → Value} {vt : Value} {s : PS} {x : σ}

/-- How far a handler has come. -/
def HRel (SA : (Nat → Prop) → World → σ → Prop) (ask : σ → Int → Int → Rep × σ) (B : Nat) (S : Nat → Prop) (w : World) (b : Nat) (pv : Nat → Value) (f : Nat → O3) (n N : Nat) (fin : PS × σ) (k : Nat) (wr : World) : Prop :=
  ∃ S' vt' T' s' x', RI SA B S' wr b pv vt' T' s' x' ∧ Fr S w wr S' ∧ hM ask f n k s' x' = fin ∧ QInv N s' ∧ 0 ≤ s'.next ∧ s'.next ≤ 40 ∧ n ≤ s'.next.toNat + k

theorem hM_stop (f : Nat → O3) (n k : Nat) (s : PS) (x : σ) (h : ¬ (s.next < n ∧ s.fin = 0)) : hM ask f n k s x = (s, x) := by
  cases k with
  | zero => rfl
  | succ k => simp only [hM]; rw [if_neg h]

theorem hrel_next {w2 : World} {S2 T2 : Nat → Prop} {vt2 : Value} {s2 : PS} {x2 : σ} {f : Nat → O3} {n N k' : Nat} {fin : PS × σ} {nx : Int} (p1 : RI SA B S2 w2 b pv vt2 T2 s2 x2) (p2 : Fr S w w2 S2) (e : fin = hM ask f n k' s2 x2) (q : QInv N s2)
    (hx : s2.next = nx + 1 ∨ s2.next = nx + 1 + 1) (h0 : 0 ≤ nx) (h1 : nx < n) (hn : n ≤ 32) (h7 : n ≤ nx.toNat + (k' + 1)) : HRel SA ask B S w b pv f n N fin k' w2 :=
  ⟨S2, vt2, T2, s2, x2, p1, p2, e.symm, q, by omega, by omega, by omega⟩

set_option maxHeartbeats 4000000 in
theorem handle_any (L : SrcLaw SA) {rb tyS fnS : Nat} (K : HearSpec SA ask may B rb tyS fnS) (hp : pv 3 = .iface tyS (.pointer (some ⟨rb, 0, none⟩))) (hm : may 1 0) (hm4 : ∀ v, 1 ≤ v → v ≤ 1000000 → may 4 v) (hk : ClockOk ask)
    {w0 : World} (hB : B = w0.heap.size) (hbel : Below w0.heap.size w0 w) (h : RI SA B S w b pv vt T s x) {v : Value} {n N nt nf : Nat} {f : Nat → O3} (hv : OpsIn w0 v n f) (hn : n ≤ 32) (hnt : nt ≤ 8) (hnf : nf ≤ 8) (hr : ∀ i, i < n → rt (f i) nt nf = true) (hq : QInv N s) (hN : N ≤ 100000000) :
    Calls Tryz.prog 54 #[.pointer (some ⟨b, 0, none⟩), v] w fun e w' => e = .returned (.tuple #[]) ∧ RunPost SA B S w b pv (hM ask f n n { s with next := 0 } x).1 (hM ask f n n { s with next := 0 } x).2 w' := by
  obtain ⟨va, vc, rfl, vl, hf⟩ := hv
  have hin := h.inB
  have c0 := h.cell 17 (by omega)
  have z0 := h.free 17 (by omega)
  generalize img pv vt s 17 = o17 at c0
  have hb := (h.bound b h.inB).2
  have h0 := h.set L 17 (.int .i64 0) { s with next := 0 } (by omega) (set_next pv vt s 0) rfl
  have r0 : HRel SA ask B S w b pv f n N (hM ask f n n { s with next := 0 } x) n (w.setCell ⟨b, 17, none⟩ (.int .i64 0)) :=
    ⟨S, vt, T, _, x, h0, (Fr.refl S w).setCell _ _ (.inl hin), rfl, ⟨hq.fuel, hq.clock, hq.armings, hq.trace⟩, Int.le_refl 0, by show (0 : Int) ≤ 40; omega, by simp⟩
  have hSB : ∀ k, S k → B ≤ k := fun k hk => (h.bound k hk).1
  have hBw : B ≤ w.heap.size := by have := h.bound b h.inB; omega
  generalize hM ask f n n { s with next := 0 } x = fin at *
  have HF := hide hf
  have HR := hide hr
  have R0 := hide r0
  have HSB := hide hSB
  have HBW := hide hBw
  have HBEL := hide hbel
  have HBE := hide hB
  clear h h0 hf hr r0 hq hin hSB hBw hbel hB
  go_enter Tryz.func54, Tryz.ntmps54
  go_wp2
  go_loopg [4] n (fun k u wr => HRel SA ask B S w b pv f n N fin k wr)
  case atStart => exact unhide R0
  case round =>
    obtain ⟨S', vt', T', s', x', q1, q2, q3, q4, q5, q6, q7⟩ := hrel
    have c17 := (q1.cell 17 (by omega)).trans (by rw [img_next])
    have c66 := (q1.cell 66 (by omega)).trans (by rw [img_fin])
    have c16 := (q1.cell 16 (by omega)).trans (by rw [img_fuel])
    have f16 := q1.free 16 (by omega)
    have f17 := q1.free 17 (by omega)
    have f66 := q1.free 66 (by omega)
    have hbr := (q1.bound b q1.inB).2
    by_cases hlt : s'.next < n
    · by_cases hfi : s'.fin = 0
      · obtain ⟨k', rfl⟩ : ∃ k', gk = k' + 1 := ⟨gk - 1, by omega⟩
        have hu : hM ask f n (k' + 1) s' x' = if s'.fuel = 0 then ({ s' with fin := 3 }, x') else hM ask f n k' (opM ask (f s'.next.toNat) { s' with fuel := s'.fuel - 1, next := s'.next + 1 } x').1 (opM ask (f s'.next.toNat) { s' with fuel := s'.fuel - 1, next := s'.next + 1 } x').2 := by
          simp only [hM]; rw [if_pos ⟨hlt, hfi⟩]
        have hfb : (s'.fin == 0) = true := by simpa using hfi
        by_cases hfu : s'.fuel = 0
        · rw [if_pos hfu] at hu
          have q := q1.set L 66 (.int .i64 3) { s' with fin := 3 } (by omega) (set_fin pv vt' s' 3) rfl
          have hub : (s'.fuel == 0) = true := by simpa using hfu
          have Q1 := hide q
          have Q2 := hide (q2.setCell ⟨b, 66, none⟩ (.int .i64 3) (by by_cases hs : S b; exact .inl hs; exact .inr (Nat.le_of_not_lt fun hl => hs (q2.old b hl q1.inB))))
          have E := hide (q3.symm.trans hu)
          clear q q1 q2 q3 q4 hu hfi hfu
          generalize s'.next = nx at *
          generalize s'.fin = fi at *
          generalize s'.fuel = fu at *
          go_wp2
          refine bodyPost_ret (v := .tuple #[]) (by simp [results, Tryz.results54, go_sem]) rfl ?_
          rw [unhide E]
          exact ⟨rfl, S', vt', T', unhide Q1, unhide Q2⟩
        · rw [if_neg hfu] at hu
          have hub : (s'.fuel == 0) = false := by simpa using hfu
          rcases unhide HF with hz | ⟨ob, off, rfl, hf⟩
          · omega
          have hi : s'.next.toNat < n := by omega
          have hbw : Below w0.heap.size w0 wr := (unhide HBEL).trans (unhide HBE ▸ q2.below (unhide HSB) (unhide HBW))
          have hop := opAt_below hbw (hf _ hi)
          have hob : ob < w0.heap.size := opAt_lt (hf _ hi)
          have hBb : B ≤ b := (q1.bound b q1.inB).1
          have hne : ¬ b = ob := by have := unhide HBE; omega
          have hne' : ¬ ob = b := by omega
          have hobw : ob < wr.heap.size := opAt_lt hop
          have hrt := unhide HR _ hi
          have e1 : (0 : Int) ≤ s'.next := q5
          have e2 : s'.next < (n : Int) := hlt
          generalize hgo : f s'.next.toNat = o at *
          obtain ⟨c, a, v⟩ := o
          obtain ⟨g0, g1, g2⟩ := hop
          have hc := right_code (show rightB c a v nt nf = true from hrt)
          have qf := q4.fuel
          have h1 := ((((q1.set L 16 (.int .i64 (s'.fuel - 1)) _ (by omega) (set_fuel pv vt' s' (s'.fuel - 1)) rfl).set L 17 (.int .i64 (s'.next + 1)) _ (by omega) (set_next pv vt' _ (s'.next + 1)) rfl).alloc L (.cells #[.int .i64 c, .int .i64 a, .int .i64 v] 70)).drew L)
          have hact := act_any L K hp h1 hm hm4 c a v nt nf hnt hnf hrt ⟨⟨by show 0 ≤ s'.next + 1; omega, by show s'.next + 1 ≤ 1000; omega⟩, q4.clock, ⟨q4.armings.1, by have := q4.armings.2; show s'.armings ≤ 5000; omega⟩, by have := q4.trace; show s'.trace.length ≤ 100000000; omega⟩
          have hact' := h1.cell (4 + c.toNat) (by omega)
          rw [img_act _ _ _ _ (by omega)] at hact'
          have HACT := hide hact
          have HACTV := hide hact'
          have hnx := opM_next (ask := ask) (c, a, v) { s' with fuel := s'.fuel - 1, next := s'.next + 1 } x'
          have hnv := opM_inv hk (c, a, v) { s' with fuel := s'.fuel - 1, next := s'.next + 1 } x' (N := N) ⟨⟨by show 0 ≤ s'.fuel - 1; omega, by show s'.fuel - 1 ≤ 5000; omega⟩, q4.clock, ⟨q4.armings.1, by have := q4.armings.2; show s'.armings + (s'.fuel - 1) ≤ 5000; omega⟩, by have := q4.trace; show s'.trace.length + (s'.fuel - 1).toNat ≤ N; omega⟩ (by have := q4.armings.2; show s'.armings + (s'.fuel - 1) + 1 ≤ 5000; omega) (by have := q4.trace; show s'.trace.length + (s'.fuel - 1).toNat + 1 ≤ N; omega)
          have hSb : S b ∨ w.heap.size ≤ b := by
            by_cases hs : S b
            · exact .inl hs
            · exact .inr (Nat.le_of_not_lt fun hl => hs (q2.old b hl q1.inB))
          have Q2 := hide (((((q2.setCell ⟨b, 16, none⟩ (.int .i64 (s'.fuel - 1)) hSb).setCell ⟨b, 17, none⟩ (.int .i64 (s'.next + 1)) hSb).alloc (.cells #[.int .i64 c, .int .i64 a, .int .i64 v] 70)).drew))
          have E := hide (q3.symm.trans hu)
          have HNX := hide hnx
          have HNV := hide hnv
          clear hu q1 q2 q3 q4 hact hact' h1 hf hfi hfu hrt hnx hnv hbw
          go_wp2
          have hcs : c = 1 ∨ c = 2 ∨ c = 3 ∨ c = 4 ∨ c = 5 ∨ c = 6 ∨ c = 7 ∨ c = 8 ∨ c = 9 ∨ c = 10 ∨ c = 11 := by omega
          clear hc
          rcases hcs with rfl | rfl | rfl | rfl | rfl | rfl | rfl | rfl | rfl | rfl | rfl
          · have ha := unhide HACTV
            simp [actV] at ha
            go_region_with (go_at_call 83; refine (unhide HACT).mono ?_; rintro e w2 ⟨rfl, S2, vt2, T2, p1, p2⟩; have P1 := hide p1; have P2 := hide p2; clear p1 p2)
            all_goals
              go_wp2
              go_roundg k'
              case rel => exact hrel_next (unhide P1) ((unhide Q2).trans (unhide P2)) (unhide E) (unhide HNV) (unhide HNX) e1 e2 hn q7
              case measure => omega
          · have ha := unhide HACTV
            simp [actV] at ha
            go_region_with (go_at_call 84; refine (unhide HACT).mono ?_; rintro e w2 ⟨rfl, S2, vt2, T2, p1, p2⟩; have P1 := hide p1; have P2 := hide p2; clear p1 p2)
            all_goals
              go_wp2
              go_roundg k'
              case rel => exact hrel_next (unhide P1) ((unhide Q2).trans (unhide P2)) (unhide E) (unhide HNV) (unhide HNX) e1 e2 hn q7
              case measure => omega
          · have ha := unhide HACTV
            simp [actV] at ha
            go_region_with (go_at_call 85; refine (unhide HACT).mono ?_; rintro e w2 ⟨rfl, S2, vt2, T2, p1, p2⟩; have P1 := hide p1; have P2 := hide p2; clear p1 p2)
            all_goals
              go_wp2
              go_roundg k'
              case rel => exact hrel_next (unhide P1) ((unhide Q2).trans (unhide P2)) (unhide E) (unhide HNV) (unhide HNX) e1 e2 hn q7
              case measure => omega
          · have ha := unhide HACTV
            simp [actV] at ha
            go_region_with (go_at_call 86; refine (unhide HACT).mono ?_; rintro e w2 ⟨rfl, S2, vt2, T2, p1, p2⟩; have P1 := hide p1; have P2 := hide p2; clear p1 p2)
            all_goals
              go_wp2
              go_roundg k'
              case rel => exact hrel_next (unhide P1) ((unhide Q2).trans (unhide P2)) (unhide E) (unhide HNV) (unhide HNX) e1 e2 hn q7
              case measure => omega
          · have ha := unhide HACTV
            simp [actV] at ha
            go_region_with (go_at_call 87; refine (unhide HACT).mono ?_; rintro e w2 ⟨rfl, S2, vt2, T2, p1, p2⟩; have P1 := hide p1; have P2 := hide p2; clear p1 p2)
            all_goals
              go_wp2
              go_roundg k'
              case rel => exact hrel_next (unhide P1) ((unhide Q2).trans (unhide P2)) (unhide E) (unhide HNV) (unhide HNX) e1 e2 hn q7
              case measure => omega
          · have ha := unhide HACTV
            simp [actV] at ha
            go_region_with (go_at_call 88; refine (unhide HACT).mono ?_; rintro e w2 ⟨rfl, S2, vt2, T2, p1, p2⟩; have P1 := hide p1; have P2 := hide p2; clear p1 p2)
            all_goals
              go_wp2
              go_roundg k'
              case rel => exact hrel_next (unhide P1) ((unhide Q2).trans (unhide P2)) (unhide E) (unhide HNV) (unhide HNX) e1 e2 hn q7
              case measure => omega
          · have ha := unhide HACTV
            simp [actV] at ha
            go_region_with (go_at_call 89; refine (unhide HACT).mono ?_; rintro e w2 ⟨rfl, S2, vt2, T2, p1, p2⟩; have P1 := hide p1; have P2 := hide p2; clear p1 p2)
            all_goals
              go_wp2
              go_roundg k'
              case rel => exact hrel_next (unhide P1) ((unhide Q2).trans (unhide P2)) (unhide E) (unhide HNV) (unhide HNX) e1 e2 hn q7
              case measure => omega
          · have ha := unhide HACTV
            simp [actV] at ha
            go_region_with (go_at_call 90; refine (unhide HACT).mono ?_; rintro e w2 ⟨rfl, S2, vt2, T2, p1, p2⟩; have P1 := hide p1; have P2 := hide p2; clear p1 p2)
            all_goals
              go_wp2
              go_roundg k'
              case rel => exact hrel_next (unhide P1) ((unhide Q2).trans (unhide P2)) (unhide E) (unhide HNV) (unhide HNX) e1 e2 hn q7
              case measure => omega
          · have ha := unhide HACTV
            simp [actV] at ha
            go_region_with (go_at_call 91; refine (unhide HACT).mono ?_; rintro e w2 ⟨rfl, S2, vt2, T2, p1, p2⟩; have P1 := hide p1; have P2 := hide p2; clear p1 p2)
            all_goals
              go_wp2
              go_roundg k'
              case rel => exact hrel_next (unhide P1) ((unhide Q2).trans (unhide P2)) (unhide E) (unhide HNV) (unhide HNX) e1 e2 hn q7
              case measure => omega
          · have ha := unhide HACTV
            simp [actV] at ha
            go_region_with (go_at_call 92; refine (unhide HACT).mono ?_; rintro e w2 ⟨rfl, S2, vt2, T2, p1, p2⟩; have P1 := hide p1; have P2 := hide p2; clear p1 p2)
            all_goals
              go_wp2
              go_roundg k'
              case rel => exact hrel_next (unhide P1) ((unhide Q2).trans (unhide P2)) (unhide E) (unhide HNV) (unhide HNX) e1 e2 hn q7
              case measure => omega
          · have ha := unhide HACTV
            simp [actV] at ha
            go_region_with (go_at_call 93; refine (unhide HACT).mono ?_; rintro e w2 ⟨rfl, S2, vt2, T2, p1, p2⟩; have P1 := hide p1; have P2 := hide p2; clear p1 p2)
            all_goals
              go_wp2
              go_roundg k'
              case rel => exact hrel_next (unhide P1) ((unhide Q2).trans (unhide P2)) (unhide E) (unhide HNV) (unhide HNX) e1 e2 hn q7
              case measure => omega
      · have e := hM_stop (ask := ask) f n gk s' x' (fun hh => hfi hh.2)
        have hfb : (s'.fin == 0) = false := by simpa using hfi
        have Q1 := hide q1
        have Q2 := hide q2
        have E := hide (q3.symm.trans e)
        clear q1 q2 q3 q4 e hfi
        generalize s'.next = nx at *
        generalize s'.fin = fi at *
        go_wp2
        go_end0
        rw [unhide E]
        exact ⟨rfl, S', vt', T', unhide Q1, unhide Q2⟩
    · have e := hM_stop (ask := ask) f n gk s' x' (fun hh => hlt hh.1)
      have Q1 := hide q1
      have Q2 := hide q2
      have E := hide (q3.symm.trans e)
      clear q1 q2 q3 q4 e
      generalize s'.next = nx at *
      generalize s'.fin = fi at *
      go_wp2
      go_end0
      rw [unhide E]
      exact ⟨rfl, S', vt', T', unhide Q1, unhide Q2⟩
end
end Go.Proofs.YtfmbebofllgmoaaGreatDoor
namespace Go.Proofs.YtfmbebofllgmoaaGreatDoor
open Go.RowKit

section
variable {σ : Type} {ask : σ → Int → Int → Rep × σ}

theorem hM_inv (hk : ClockOk ask) {N n : Nat} {f : Nat → O3} : ∀ (k : Nat) (s : PS) (x : σ), QInv N s → QInv N (hM ask f n k s x).1
  | 0, _, _, h => h
  | k + 1, s, x, h => by
    unfold hM
    by_cases hc : s.next < n ∧ s.fin = 0
    · rw [if_pos hc]
      by_cases hf : s.fuel = 0
      · rw [if_pos hf]; exact ⟨h.fuel, h.clock, h.armings, h.trace⟩
      · rw [if_neg hf]
        have h1 := h.fuel
        have h2 := h.armings
        have h3 := h.trace
        exact hM_inv hk k _ _ (opM_inv hk _ _ _ ⟨⟨by show 0 ≤ s.fuel - 1; omega, by show s.fuel - 1 ≤ 5000; omega⟩, h.clock, ⟨h2.1, by show s.armings + (s.fuel - 1) ≤ 5000; omega⟩, by show s.trace.length + (s.fuel - 1).toNat ≤ N; omega⟩
          (by show s.armings + (s.fuel - 1) + 1 ≤ 5000; omega) (by show s.trace.length + (s.fuel - 1).toNat + 1 ≤ N; omega))
    · rw [if_neg hc]; exact h

/-- Files that are watched are files of the program; timers that are armed are timers of the program, by their numbers, each with an arming of its own. -/
structure WInv (nt nf : Nat) (s : PS) : Prop where
  wat : ∀ i, s.wat i = true → i < nf
  num : ∀ i, (s.tim i).1 = true → i < nt ∧ (s.tim i).2.2.2 = (i : Int)
  arm : ∀ i, (s.tim i).1 = true → (s.tim i).2.2.1 ≤ s.armings
  uni : ∀ i j, (s.tim i).1 = true → (s.tim j).1 = true → (s.tim i).2.2.1 = (s.tim j).2.2.1 → i = j

theorem WInv.of {nt nf : Nat} {s s' : PS} (h : WInv nt nf s) (hw : s'.wat = s.wat) (ht : s'.tim = s.tim) (ha : s'.armings = s.armings) : WInv nt nf s' := by
  obtain ⟨h1, h2, h3, h4⟩ := h
  exact ⟨by rw [hw]; exact h1, by rw [ht]; exact h2, by rw [ht, ha]; exact h3, by rw [ht]; exact h4⟩

theorem ckS_winv {nt nf : Nat} {s : PS} (h : WInv nt nf s) (R : Rep) : WInv nt nf (ckS s R) := by
  unfold ckS; exact ite_ok (P := WInv nt nf) (ite_ok (P := WInv nt nf) (h.of rfl rfl rfl) (h.of rfl rfl rfl)) (h.of rfl rfl rfl)

theorem opM_winv {nt nf : Nat} {c a v : Int} {s : PS} (x : σ) (hr : rightB c a v nt nf = true) (h : WInv nt nf s) : WInv nt nf (opM ask (c, a, v) s x).1 := by
  have hc := right_code hr
  have hcs : c = 1 ∨ c = 2 ∨ c = 3 ∨ c = 4 ∨ c = 5 ∨ c = 6 ∨ c = 7 ∨ c = 8 ∨ c = 9 ∨ c = 10 ∨ c = 11 := by omega
  rcases hcs with rfl | rfl | rfl | rfl | rfl | rfl | rfl | rfl | rfl | rfl | rfl
  · exact h.of rfl rfl rfl
  · exact h.of rfl rfl rfl
  · obtain ⟨q1, q2⟩ := right_tim hr (by omega)
    refine ⟨h.wat, ?_, ?_, ?_⟩
    · intro i hi
      by_cases e : i = a.toNat
      · subst e; simp [opM, upd]; omega
      · have h0 : (opM ask (3, a, v) s x).1.tim i = s.tim i := by simp [opM, upd, e]
        rw [h0] at hi ⊢; exact h.num i hi
    · intro i hi
      have ha : (opM ask (3, a, v) s x).1.armings = s.armings + 1 := by simp [opM]
      rw [ha]
      by_cases e : i = a.toNat
      · subst e; simp [opM, upd]
      · have h0 : (opM ask (3, a, v) s x).1.tim i = s.tim i := by simp [opM, upd, e]
        rw [h0] at hi ⊢
        have := h.arm i hi
        omega
    · have hne : ∀ i, i ≠ a.toNat → (opM ask (3, a, v) s x).1.tim i = s.tim i := fun i e => by simp [opM, upd, e]
      have heq : ((opM ask (3, a, v) s x).1.tim a.toNat).2.2.1 = s.armings + 1 := by simp [opM, upd]
      intro i j hi hj he
      by_cases e : i = a.toNat
      · by_cases e' : j = a.toNat
        · omega
        · subst e
          rw [heq] at he
          rw [hne j e'] at hj he
          have := h.arm j hj
          omega
      · by_cases e' : j = a.toNat
        · subst e'
          rw [heq] at he
          rw [hne i e] at hi he
          have := h.arm i hi
          omega
        · rw [hne i e] at hi he
          rw [hne j e'] at hj he
          exact h.uni i j hi hj he
  · have hne : ∀ i, ((opM ask (4, a, v) s x).1.tim i).1 = true → (opM ask (4, a, v) s x).1.tim i = s.tim i := fun i e => by
      by_cases e' : i = a.toNat
      · subst e'; simp [opM, upd] at e
      · simp [opM, upd, e']
    refine ⟨h.wat, ?_, ?_, ?_⟩
    · intro i hi; have h0 := hne i hi; rw [h0] at hi ⊢; exact h.num i hi
    · intro i hi; have h0 := hne i hi; rw [h0] at hi ⊢; exact h.arm i hi
    · intro i j hi hj he
      have h0 := hne i hi
      have h1 := hne j hj
      rw [h0] at hi he
      rw [h1] at hj he
      exact h.uni i j hi hj he
  · obtain ⟨q1, q2⟩ := right_file hr (by omega)
    refine ⟨?_, h.num, h.arm, h.uni⟩
    intro i hi
    by_cases e : i = a.toNat
    · omega
    · simp [opM, upd, e] at hi; exact h.wat i hi
  · obtain ⟨q1, q2⟩ := right_file hr (by omega)
    refine ⟨?_, h.num, h.arm, h.uni⟩
    intro i hi
    by_cases e : i = a.toNat
    · omega
    · simp [opM, upd, e] at hi; exact h.wat i hi
  · have hq := ckS_winv h (ask x 1 0).1
    exact ite_ok (P := WInv nt nf) (hq.of rfl rfl rfl) hq
  · show WInv nt nf (lotS s (ask x 4 v).1 a.toNat)
    unfold lotS; exact ite_ok (P := WInv nt nf) (h.of rfl rfl rfl) (h.of rfl rfl rfl)
  · exact h.of rfl rfl rfl
  · exact ite_ok (P := WInv nt nf) (h.of rfl rfl rfl) h
  · exact h.of rfl rfl rfl

theorem hM_winv {nt nf n : Nat} {f : Nat → O3} (hr : ∀ i, i < n → rt (f i) nt nf = true) : ∀ (k : Nat) (s : PS) (x : σ), 0 ≤ s.next → WInv nt nf s → WInv nt nf (hM ask f n k s x).1
  | 0, _, _, _, h => h
  | k + 1, s, x, h0, h => by
    unfold hM
    by_cases hc : s.next < n ∧ s.fin = 0
    · rw [if_pos hc]
      by_cases hf : s.fuel = 0
      · rw [if_pos hf]; exact h.of rfl rfl rfl
      · rw [if_neg hf]
        have hn := opM_next (ask := ask) (f s.next.toNat) { s with fuel := s.fuel - 1, next := s.next + 1 } x
        refine hM_winv hr k _ _ (by simp only at hn; omega) ?_
        have hrr := hr s.next.toNat (by omega)
        exact opM_winv x hrr (h.of rfl rfl rfl)
    · rw [if_neg hc]; exact h

/-- A pick: which, is it to be had, and what comes of it. -/
def pk (ask : σ → Int → Int → Rep × σ) (n : Nat) (s : PS) (x : σ) : Int × Bool × PS × σ :=
  if n = 1 then (0, true, s, x) else (if (ask x 3 n).1.e = 0 then (ask x 3 n).1.n else 0, decide ((ask x 3 n).1.e = 0), hdS s (ask x 3 n).1, (ask x 3 n).2)
/-- One ready file's turn. -/
def wk1 (g : Int → PS → σ → PS × σ) (z : Int) (s : PS) (x : σ) : PS × σ := if s.wat z.toNat then g z { s with trace := s.trace ++ [(2, z, 0)] } x else (s, x)
/-- The ready files, k of them at most. -/
def wkM (ask : σ → Int → Int → Rep × σ) (g : Int → PS → σ → PS × σ) : Nat → List Int → PS → σ → PS × σ
  | 0, _, s, x => (s, x)
  | k + 1, l, s, x => if l = [] ∨ s.fin ≠ 0 then (s, x) else
    if (pk ask l.length s x).2.1 then wkM ask g k (l.eraseIdx (pk ask l.length s x).1.toNat) (wk1 g (l.getD (pk ask l.length s x).1.toNat 0) (pk ask l.length s x).2.2.1 (pk ask l.length s x).2.2.2).1 (wk1 g (l.getD (pk ask l.length s x).1.toNat 0) (pk ask l.length s x).2.2.1 (pk ask l.length s x).2.2.2).2
    else ((pk ask l.length s x).2.2.1, (pk ask l.length s x).2.2.2)

/-- The source's picks are picks. -/
def PickOk (ask : σ → Int → Int → Rep × σ) : Prop := ∀ x (n : Nat), 2 ≤ n → n ≤ 8 → (ask x 3 n).1.e = 0 → 0 ≤ (ask x 3 n).1.n ∧ (ask x 3 n).1.n < n

theorem pk_lt (hk : PickOk ask) {n : Nat} (s : PS) (x : σ) (h1 : 1 ≤ n) (h8 : n ≤ 8) (hb : (pk ask n s x).2.1 = true) : 0 ≤ (pk ask n s x).1 ∧ (pk ask n s x).1 < n := by
  unfold pk at *
  by_cases e : n = 1
  · subst e; simp
  · rw [if_neg e] at hb ⊢
    have he : (ask x 3 n).1.e = 0 := by simpa using hb
    simp only [he, if_true]
    exact hk x n (by omega) h8 he

theorem pk_same (n : Nat) (s : PS) (x : σ) : (pk ask n s x).2.2.1.fuel = s.fuel ∧ (pk ask n s x).2.2.1.clock = s.clock ∧ (pk ask n s x).2.2.1.armings = s.armings ∧ (pk ask n s x).2.2.1.trace = s.trace ∧ (pk ask n s x).2.2.1.wat = s.wat ∧ (pk ask n s x).2.2.1.tim = s.tim := by
  unfold pk
  by_cases e : n = 1
  · rw [if_pos e]; exact ⟨rfl, rfl, rfl, rfl, rfl, rfl⟩
  · rw [if_neg e]; simp only [hdS]
    by_cases e' : (ask x 3 n).1.e = 0
    · rw [if_pos e']; exact ⟨rfl, rfl, rfl, rfl, rfl, rfl⟩
    · rw [if_neg e']; exact ⟨rfl, rfl, rfl, rfl, rfl, rfl⟩
theorem QInv.of {N : Nat} {s s' : PS} (h : QInv N s) (h1 : s'.fuel = s.fuel) (h2 : s'.clock = s.clock) (h3 : s'.armings = s.armings) (h4 : s'.trace = s.trace) : QInv N s' :=
  ⟨by rw [h1]; exact h.fuel, by rw [h2]; exact h.clock, by rw [h1, h3]; exact h.armings, by rw [h1, h4]; exact h.trace⟩
end
end Go.Proofs.YtfmbebofllgmoaaGreatDoor
namespace Go.Proofs.YtfmbebofllgmoaaGreatDoor
open Go.RowKit

theorem setCells_block (g e : Nat) (fr : Nat × Nat) : ∀ (vs : List Value) (o : Nat) (w : World) (cur : Array Value), w.heap[g]? = some (.cells cur e fr) →
    ∃ cur', (w.setCells g o vs).heap[g]? = some (.cells cur' e fr) ∧ cur'.size = cur.size
  | [], _, w, cur, h => ⟨cur, h, rfl⟩
  | v :: vs, o, w, cur, h => by
    have h1 : (w.setCell ⟨g, o, none⟩ v).heap[g]? = some (.cells (cur.setIfInBounds o v) e fr) := by
      have h0 : w.heap[g]? = some (.cells cur e fr) := h
      simp only [World.setCell, Array.getElem?_modify]
      rw [h0]
      simp
    obtain ⟨cur', h2, h3⟩ := setCells_block g e fr vs (o + 1) _ _ h1
    exact ⟨cur', h2, by simpa using h3⟩
theorem setCells_other (g : Nat) : ∀ (vs : List Value) (o : Nat) (w : World) (q : Nat), q ≠ g → (w.setCells g o vs).heap[q]? = w.heap[q]?
  | [], _, _, _, _ => rfl
  | _ :: vs, o, _, q, h => (setCells_other g vs (o + 1) _ q h).trans (Below.heap_setCell _ _ _ _ h)
theorem setCells_size (g : Nat) : ∀ (vs : List Value) (o : Nat) (w : World), (w.setCells g o vs).heap.size = w.heap.size ∧ (w.setCells g o vs).os = w.os ∧ (w.setCells g o vs).tape = w.tape ∧ (w.setCells g o vs).output = w.output
  | [], _, _ => ⟨rfl, rfl, rfl, rfl⟩
  | v :: vs, o, w => by
    obtain ⟨h1, h2, h3, h4⟩ := setCells_size g vs (o + 1) (w.setCell ⟨g, o, none⟩ v)
    exact ⟨h1.trans (by simp [World.setCell]), h2, h3, h4⟩

theorem ownI_of {w : World} {B g cap : Nat} {cur : Array Value} {l : List Int} (hb : w.heap[g]? = some (.cells cur 3 (0, 0))) (hs : cur.size = cap) (hB : B ≤ g) (hl : l.length ≤ cap) (hm : cap ≤ maxLen)
    (hc : ∀ j, j < l.length → w.cell? ⟨g, j, none⟩ = some (.int .i64 (l.getD j 0))) : OwnI w B (.slice (some ⟨g, 0, none⟩) l.length cap) l := by
  refine ⟨by simp, .inr ⟨g, cap, cur, rfl, hB, hb, hl, hm, by omega, ?_⟩⟩
  apply List.ext_getElem?
  intro j
  by_cases hj : j < l.length
  · have h1 := hc j hj
    rw [cell_of_row w g j cur 3 (0, 0) hb] at h1
    rw [List.getElem?_take]
    simp only [Nat.mul_one, hj, if_true]
    rw [Array.getElem?_toList, h1]
    simp [List.getD, hj]
  · rw [List.getElem?_eq_none (by simp; omega), List.getElem?_eq_none (by simp; omega)]

theorem ownI_parts {w : World} {B : Nat} {v : Value} {l : List Int} (h : OwnI w B v l) (hl : 0 < l.length) : ∃ g cap cur, v = .slice (some ⟨g, 0, none⟩) l.length cap ∧ B ≤ g ∧ w.heap[g]? = some (.cells cur 3 (0, 0)) ∧ l.length ≤ cap ∧ cap ≤ maxLen ∧ cur.size = cap ∧
    (∀ j, j < l.length → w.cell? ⟨g, j, none⟩ = some (.int .i64 (l.getD j 0))) := by
  rcases h.2 with ⟨_, h0⟩ | ⟨g, cap, cur, hv, hB, hg, h1, h2, h3, h4⟩
  · omega
  refine ⟨g, cap, cur, hv, hB, hg, h1, h2, by omega, fun j hj => ?_⟩
  rw [cell_of_row w g j cur 3 (0, 0) hg]
  have h5 := congrArg (fun q : List Value => q[j]?) h4
  simp only [List.getElem?_take, Nat.mul_one, hj, if_true, Array.getElem?_toList] at h5
  rw [h5]
  simp [List.getD, hj]

/-- The cells that are moved one to the left. -/
def movedI (l : List Int) (k : Nat) : List Value := (l.drop (k + 1)).map (Value.int .i64)
theorem movedI_length (l : List Int) (k : Nat) : (movedI l k).length = l.length - (k + 1) := by simp [movedI]
theorem movedI_get (l : List Int) (k j : Nat) (hj : j < l.length - (k + 1)) : (movedI l k)[j]? = some (.int .i64 (l.getD (k + 1 + j) 0)) := by
  simp [movedI, List.getD, show k + 1 + j < l.length by omega]
theorem zero3 (w : World) : (zeroValue 3).run Tryz.prog w = .ok (.int .i64 0) w := by kernel_rfl

theorem frozen_row {w : World} {g : Nat} {cur : Array Value} (hb : w.heap[g]? = some (.cells cur 3 (0, 0))) (j : Nat) : w.frozen? ⟨g, j, none⟩ = false := by simp [World.frozen?, hb]

/-- What delete leaves in memory. -/
theorem delete_world {w : World} {g cap k r : Nat} {cur : Array Value} {l : List Int} (hb : w.heap[g]? = some (.cells cur 3 (0, 0))) (hs : cur.size = cap) (hL : l.length = k + 1 + r)
    (hc : ∀ j, j < l.length → w.cell? ⟨g, j, none⟩ = some (.int .i64 (l.getD j 0))) : ∀ W1, w.drew.setCells g k (movedI l k) = W1 →
    (∃ cur', (W1.setCells g (k + r) [.int .i64 0]).heap[g]? = some (.cells cur' 3 (0, 0)) ∧ cur'.size = cap) ∧
    (W1.cell? ⟨g, k + r, none⟩).isSome = true ∧ W1.frozen? ⟨g, k + r, none⟩ = false ∧
    (∀ j, j < (l.eraseIdx k).length → (W1.setCells g (k + r) [.int .i64 0]).cell? ⟨g, j, none⟩ = some (.int .i64 ((l.eraseIdx k).getD j 0))) ∧
    w.grownBy (W1.setCells g (k + r) [.int .i64 0]) (some g) := by
  rintro W1 rfl
  have hml : (movedI l k).length = r := by rw [movedI_length, hL]; omega
  obtain ⟨c1, hc1, hs1⟩ := setCells_block g 3 (0, 0) (movedI l k) k w.drew cur hb
  obtain ⟨c2, hc2, hs2⟩ := setCells_block g 3 (0, 0) [.int .i64 0] (k + r) _ _ hc1
  have hsome : ∀ j, j < (movedI l k).length → (w.drew.cell? ⟨g, k + j, none⟩).isSome = true := fun j hj => by
    show (w.cell? _).isSome = true
    rw [hc (k + j) (by omega)]; rfl
  refine ⟨⟨c2, hc2, by omega⟩, ?_, ?_, ?_, ?_⟩
  · rw [World.cell?_setCells_out g _ _ _ _ (fun _ _ => Or.inr (by show k + (movedI l k).length ≤ k + r; omega))]
    show (w.cell? _).isSome = true
    rw [hc (k + r) (by omega)]; rfl
  · rw [World.frozen?_setCells]
    exact frozen_row (w := w.drew) hb _
  · intro j hj
    rw [List.length_eraseIdx_of_lt (by omega)] at hj
    rw [World.cell?_setCells_out g _ _ _ _ (fun _ _ => Or.inl (by show j < k + r; omega))]
    by_cases hk : j < k
    · rw [World.cell?_setCells_out g _ _ _ _ (fun _ _ => Or.inl (by show j < k; omega))]
      refine (hc j (by omega)).trans ?_
      simp [List.getD, List.getElem?_eraseIdx, hk]
    · have h1 := World.cell?_setCells_in g (movedI l k) k w.drew hsome (j - k) (by omega)
      rw [show k + (j - k) = j by omega] at h1
      rw [h1, ← List.getElem?_eq_getElem (by omega), movedI_get l k (j - k) (by omega)]
      simp only [List.getD, List.getElem?_eraseIdx, hk, if_false, show k + 1 + (j - k) = j + 1 by omega]
  · obtain ⟨a1, a2, a3, a4⟩ := setCells_size g (movedI l k) k w.drew
    obtain ⟨b1, b2, b3, b4⟩ := setCells_size g [.int .i64 0] (k + r) (w.drew.setCells g k (movedI l k))
    exact ⟨b2.trans (a2.trans rfl), b3.trans (a3.trans rfl), b4.trans (a4.trans rfl), Nat.le_of_eq (b1.trans a1).symm, fun q _ hq =>
      (setCells_other g _ _ _ q (fun e => hq (congrArg some e))).trans ((setCells_other g _ _ _ q (fun e => hq (congrArg some e))).trans rfl)⟩

set_option maxHeartbeats 2000000 in
set_option maxRecDepth 100000 in
theorem delete_any {w : World} {B : Nat} {v : Value} {l : List Int} (h : OwnI w B v l) (k r : Nat) (hL : l.length = k + 1 + r) :
    Calls Tryz.prog 119 #[v, .int .i64 k, .int .i64 ((k : Int) + 1)] w fun e w' => ∃ v', e = .returned v' ∧ OwnI w' B v' (l.eraseIdx k) ∧ w.grownBy w' v.ownBlock ∧ v'.ownBlock = v.ownBlock := by
  obtain ⟨g, cap, cur, rfl, hB, hg, hl, hm, hs, hc⟩ := ownI_parts h (by omega)
  obtain ⟨i0, hi0, hz0, hz1, hz2⟩ := info3
  have hfr := fun j => frozen_row hg j
  obtain ⟨A, hA, hnews⟩ : ∃ A : Addr, (if cap = k + 1 then some (⟨g, 0, none⟩ : Addr) else some ⟨g, k + 1, none⟩) = some A ∧ Hid (∀ j u, (movedI l k)[j]? = some u → w.drew.cell? (A.add j) = some u) := by
    by_cases e : cap = k + 1
    · refine ⟨⟨g, 0, none⟩, by simp [e], fun j u hu => ?_⟩
      have h0 : (movedI l k).length = 0 := by rw [movedI_length]; omega
      rw [List.length_eq_zero_iff.1 h0] at hu
      simp at hu
    · refine ⟨⟨g, k + 1, none⟩, by simp [e], fun j u hu => ?_⟩
      have hj : j < l.length - (k + 1) := by
        have := (List.getElem?_eq_some_iff.1 hu).1
        rwa [movedI_length] at this
      rw [movedI_get l k j hj] at hu
      rw [Addr.add_lit]
      exact (hc (k + 1 + j) (by omega)).trans hu
  have s1 : Hid ((movedI l k).length = r * 1) := by show (movedI l k).length = r * 1; rw [Nat.mul_one, movedI_length l k, hL]; omega
  have s2 : Hid (∀ u ∈ movedI l k, u.oneCell' = true) := by
    intro u hu
    obtain ⟨x, _, rfl⟩ := List.mem_map.1 hu
    rfl
  have s3 : Hid (∀ j, j < (movedI l k).length → (w.drew.cell? ⟨g, 0 + k * 1 + j, none⟩).isSome = true ∧ w.drew.frozen? ⟨g, 0 + k * 1 + j, none⟩ = false) := by
    intro j hj
    rw [movedI_length] at hj
    rw [Nat.mul_one, Nat.zero_add]
    exact ⟨by show (w.cell? _).isSome = true; rw [hc (k + j) (by omega)]; rfl, hfr (k + j)⟩
  have HI := hide hi0
  have HC := hide hc
  have HG := hide hg
  have HM := hide hm
  have HL := hide hL
  have HS := hide hs
  rw [hL]
  rw [hL] at hl
  have hic : k ≤ cap := by omega
  have hp0 : (0 : Int) ≤ (k : Int) + 1 := by omega
  have hp1 : (k : Int) + 1 ≤ ((k + 1 + r : Nat) : Int) := by omega
  have hp2 : ((k : Int) + 1).toNat = k + 1 := by omega
  have hp3 : ((k + 1 + r : Nat) : Int) ≤ (cap : Int) := by omega
  have hp4 : (k : Int) ≤ (k : Int) + 1 := by omega
  have hp6 : (k : Int) + 1 ≤ (k : Int) + 1 + (r : Int) := by omega
  have hp7 : (k : Int) + 1 + (r : Int) ≤ (cap : Int) := by omega
  have hp5 : k + r ≤ k + 1 + r := by omega
  have hne : ((k : Int) == (k : Int) + 1) = false := by simp; omega
  clear hc h hi0 hz0 hg hm hfr hL hs
  go_enter Tryz.func119, Tryz.ntmps119
  go_wp2_with fail
  go_region_law (refine step_append_room rfl (.tmp 22) (.tmp 25) 26 rfl 3 i0 1 Tryz.underlying26 (HI.out) hz1 g 0 k cap (by simp [Act.eval, Act.put]) A r (cap-(k+1)) (movedI l k) (by simp [Act.eval, Act.put]) s1.out hnews.out s2.out (by omega) s3.out ?_)
  generalize hW1 : w.drew.setCells g k (movedI l k) = W1
  have DW := hide (delete_world HG.out HS.out HL.out HC.out W1 hW1)
  clear hW1
  have hclear : (Builtin.clear_ #[26] 0 #[.slice (some ⟨g, k + r, none⟩) 1 (cap - (k + r))]).run Tryz.prog W1 = .ok (.tuple #[]) (W1.setCells g (k + r) [.int .i64 0]) := by
    refine Go.Lib.run_clear_slice W1 26 3 0 (.int .i64 0) Tryz.underlying26 zero3 rfl rfl g (k + r) 1 (cap - (k + r)) (by omega) ?_ ?_
    · intro j hj
      obtain rfl : j = 0 := by omega
      exact DW.out.2.1
    · intro j hj
      obtain rfl : j = 0 := by omega
      exact DW.out.2.2.1
  have hq0 : (0 : Int) ≤ (k : Int) + r := by omega
  have hq1 : (k : Int) + r ≤ (k : Int) + 1 + r := by omega
  have hq2 : ((k : Int) + r).toNat = k + r := by omega
  have hq3 : k + 1 + r - (k + r) = 1 := by omega
  have hq4 : (cap = k + r) = False := by simp; omega
  have hq5 : ((k : Int) + 1 + r).toNat = k + 1 + r := by omega
  go_wp2_with fail
  obtain ⟨⟨c2, d1, d2⟩, _, _, d3, d4⟩ := DW.out
  have hE : (l.eraseIdx k).length = k + r := by rw [List.length_eraseIdx_of_lt (by have := HL.out; omega), HL.out]; omega
  go_ret
  refine ⟨_, rfl, ?_, d4, rfl⟩
  have h9 := ownI_of d1 d2 hB (by omega) HM.out d3
  rwa [hE] at h9
end Go.Proofs.YtfmbebofllgmoaaGreatDoor
namespace Go.Proofs.YtfmbebofllgmoaaGreatDoor
open Go.RowKit
attribute [local go_sem ↓] Go.wp_at_zero Go.wp_at_succ

theorem OwnI.weaken {w : World} {B B' : Nat} {v : Value} {l : List Int} (h : OwnI w B v l) (hB : B' ≤ B) : OwnI w B' v l := by
  refine ⟨h.1, ?_⟩
  rcases h.2 with hn | ⟨g, cap, cur, hv, hb, r⟩
  · exact .inl hn
  · exact .inr ⟨g, cap, cur, hv, Nat.le_trans hB hb, r⟩
theorem OwnI.fr {S S' : Nat → Prop} {w w' : World} {B : Nat} {v : Value} {l : List Int} (h : OwnI w B v l) (hf : Fr S w w' S') (hq : ∀ q, v.ownBlock = some q → q < w.heap.size ∧ ¬ S q) : OwnI w' B v l :=
  ownsRow_of_block h (fun q e => hf.same q (hq q e).1 (hq q e).2)
theorem Fr.notIn {S S' : Nat → Prop} {w w' : World} {v : Value} (hf : Fr S w w' S') (hq : ∀ q, v.ownBlock = some q → q < w.heap.size ∧ ¬ S q) : ∀ q, v.ownBlock = some q → ¬ S' q :=
  fun q e hs => (hq q e).2 (hf.old q (hq q e).1 hs)
theorem OwnI.len {w : World} {B : Nat} {v : Value} {l : List Int} (h : OwnI w B v l) : ∃ a c, v = .slice a l.length c := by
  rcases h.2 with ⟨hv, h0⟩ | ⟨g, cap, cur, hv, _⟩
  · have h1 : l.length = 0 := h0
    exact ⟨none, 0, by rw [h1]; exact hv⟩
  · exact ⟨_, _, hv⟩

section
variable {σ : Type} {SA : (Nat → Prop) → World → σ → Prop} {ask : σ → Int → Int → Rep × σ} {may : Int → Int → Prop} {B : Nat} {S T : Nat → Prop} {w : World} {b : Nat} {pv : Nat → Value} {vt : Value} {s : PS} {x : σ}

theorem pick_all (L : SrcLaw SA) {rb tyS fnS : Nat} (K : HearSpec SA ask may B rb tyS fnS) (hp : pv 3 = .iface tyS (.pointer (some ⟨rb, 0, none⟩))) (h : RI SA B S w b pv vt T s x) (n : Nat) (hm : ∀ n : Nat, 2 ≤ n → n ≤ 8 → may 3 n) (h1 : 1 ≤ n) (h8 : n ≤ 8) :
    Calls Tryz.prog 118 #[.pointer (some ⟨b, 0, none⟩), .int .i64 n] w fun e w' => e = .returned (.tuple #[.int .i64 (pk ask n s x).1, .bool (pk ask n s x).2.1]) ∧ ∃ S' T', RI SA B S' w' b pv vt T' (pk ask n s x).2.2.1 (pk ask n s x).2.2.2 ∧ Fr S w w' S' := by
  by_cases e : n = 1
  · subst e
    have e0 : pk ask 1 s x = (0, true, s, x) := rfl
    rw [e0]
    exact pick_one.mono fun e w' ⟨he, hw⟩ => ⟨he, S, T, by rw [hw]; exact h, by rw [hw]; exact Fr.refl S w⟩
  · have e0 : pk ask n s x = (if (ask x 3 n).1.e = 0 then (ask x 3 n).1.n else 0, decide ((ask x 3 n).1.e = 0), hdS s (ask x 3 n).1, (ask x 3 n).2) := if_neg e
    rw [e0]
    exact pick_any L K hp h n (hm n (by omega) h8) (by omega)

theorem IntsIn.alloc {w : World} {v : Value} {l : List Int} {P P' : Nat → Prop} (h : IntsIn w v l P) (o : Obj) (hP : ∀ q, P q → q < w.heap.size ∧ P' q) : IntsIn (w.alloc o) v l P' := by
  obtain ⟨a, c, hv, hc⟩ := h
  refine ⟨a, c, hv, ?_⟩
  rcases hc with hc | ⟨q, off, ha, hp, hc⟩
  · exact .inl hc
  · exact .inr ⟨q, off, ha, (hP q hp).2, fun i hi => (World.cell?_of_block (w := w) (a := ⟨q, off + i, none⟩) (Below.heap_alloc _ _ _ (hP q hp).1)).trans (hc i hi)⟩

theorem wkM_stop (g : Int → PS → σ → PS × σ) (k : Nat) (l : List Int) (s : PS) (x : σ) (h : l = [] ∨ s.fin ≠ 0) : wkM ask g k l s x = (s, x) := by
  cases k with
  | zero => rfl
  | succ k => simp only [wkM]; rw [if_pos h]

theorem wkM_step (g : Int → PS → σ → PS × σ) (k : Nat) (l : List Int) (s : PS) (x : σ) (hl : l ≠ []) (hf : s.fin = 0) {n : Int} {ok : Bool} {s4 : PS} {x4 : σ} (hpk : pk ask l.length s x = (n, ok, s4, x4)) :
    wkM ask g (k + 1) l s x = if ok then wkM ask g k (l.eraseIdx n.toNat) (wk1 g (l.getD n.toNat 0) s4 x4).1 (wk1 g (l.getD n.toNat 0) s4 x4).2 else (s4, x4) := by
  simp only [wkM]
  rw [if_neg (by simp [hl, hf]), hpk]

/-- How far the ready files have come. -/
def WRel (SA : (Nat → Prop) → World → σ → Prop) (ask : σ → Int → Int → Rep × σ) (B : Nat) (S : Nat → Prop) (w : World) (b : Nat) (pv : Nat → Value) (g : Int → PS → σ → PS × σ) (nt nf N : Nat) (fin : PS × σ) (k : Nat) (u : Value) (wr : World) : Prop :=
  ∃ S' vt' T' s' x' l, RI SA B S' wr b pv vt' T' s' x' ∧ Fr S w wr S' ∧ OwnI wr w.heap.size u l ∧ (∀ q, u.ownBlock = some q → ¬ S' q) ∧ wkM ask g k l s' x' = fin ∧ QInv N s' ∧ s'.trace.length + s'.fuel.toNat + l.length ≤ N ∧ WInv nt nf s' ∧ (∀ z, z ∈ l → 0 ≤ z ∧ z < 8) ∧ l.length ≤ k ∧ k ≤ 8

theorem below_of {w0 w5 : World} {S5 : Nat → Prop} (hbel : Below w0.heap.size w0 w) (hB : B = w0.heap.size) (hSB : ∀ k, S k → B ≤ k) (hBw : B ≤ w.heap.size) (f : Fr S w w5 S5) : Below w0.heap.size w0 w5 :=
  hbel.trans (hB ▸ f.below hSB hBw)

theorem wrel_next {wr w3 w4 : World} {S3 S4 S5 T5 : Nat → Prop} {vt5 : Value} {s5 : PS} {x5 : σ} {g : Int → PS → σ → PS × σ} {nt nf N k' i : Nat} {fin : PS × σ} {l : List Int} {v v4 : Value} {w5 : World}
    (r5 : RI SA B S5 w5 b pv vt5 T5 s5 x5) (f3 : Fr S w wr S3) (f4 : Fr S3 wr w3 S4) (g4 : w3.grownBy w4 v.ownBlock) (f5 : Fr S4 w4 w5 S5) (hg1 : ∀ q, v.ownBlock = some q → q < wr.heap.size ∧ ¬ S3 q) (ho : OwnI wr w.heap.size v l)
    (o4 : OwnI w4 w.heap.size v4 (l.eraseIdx i)) (b4 : v4.ownBlock = v.ownBlock) (hil : i < l.length) (e : wkM ask g k' (l.eraseIdx i) s5 x5 = fin) (hq : QInv (N - (l.length - 1)) s5) (hw : WInv nt nf s5) (hl : ∀ z, z ∈ l → 0 ≤ z ∧ z < 8) (hlk : l.length ≤ k' + 1) (hk8 : k' + 1 ≤ 8) (hN : 8 ≤ N) :
    WRel SA ask B S w b pv g nt nf N fin k' v4 w5 := by
  have hb4 : ∀ q, v4.ownBlock = some q → q < w4.heap.size ∧ ¬ S4 q := fun q hq' => by
    rw [b4] at hq'
    exact ⟨Nat.lt_of_lt_of_le (hg1 q hq').1 (Nat.le_trans f4.size g4.size), f4.notIn hg1 q hq'⟩
  have hlen : (l.eraseIdx i).length = l.length - 1 := List.length_eraseIdx_of_lt hil
  have h1 := hq.trace
  refine ⟨S5, vt5, T5, s5, x5, l.eraseIdx i, r5, ((f3.trans f4).grown g4 (fun q hq' => (ho.lt q hq').1)).trans f5, o4.fr f5 hb4, f5.notIn hb4, e, ⟨hq.fuel, hq.clock, hq.armings, by omega⟩, by rw [hlen]; omega, hw, fun z hz => hl z (List.mem_of_mem_eraseIdx hz), by rw [hlen]; omega, by omega⟩

set_option maxHeartbeats 4000000 in
theorem wake_any (L : SrcLaw SA) {rb tyS fnS : Nat} (K : HearSpec SA ask may B rb tyS fnS) (hp : pv 3 = .iface tyS (.pointer (some ⟨rb, 0, none⟩))) (hm : may 1 0) (hm2 : may 2 0) (hm3 : ∀ n : Nat, 2 ≤ n → n ≤ 8 → may 3 n) (hm4 : ∀ v, 1 ≤ v → v ≤ 1000000 → may 4 v) (hk : ClockOk ask) (hkp : PickOk ask)
    {w0 : World} (hB : B = w0.heap.size) (hbel : Below w0.heap.size w0 w) (h : RI SA B S w b pv vt T s x) {N nt nf : Nat} {fl : Nat → Nat} {ff : Nat → Nat → O3} (hv : HandsIn w0 (pv 2) nf fl ff) (hn : ∀ i, i < nf → fl i ≤ 32) (hnt : nt ≤ 8) (hnf : nf ≤ 8) (hr : ∀ i, i < nf → ∀ j, j < fl i → rt (ff i j) nt nf = true)
    (hq : QInv N s) (hN : N + 8 ≤ 100000000) (hw : WInv nt nf s) (hfil : ∀ z, z ∈ (ask x 2 0).1.files → 0 ≤ z ∧ z < 8) (hfl8 : (ask x 2 0).1.files.length ≤ 8) :
    Calls Tryz.prog 97 #[.pointer (some ⟨b, 0, none⟩)] w fun e w' => e = .returned (.tuple #[]) ∧
      RunPost SA B S w b pv (if (ask x 2 0).1.e = 0 then wkM ask (fun z s x => hM ask (ff z.toNat) (fl z.toNat) (fl z.toNat) { s with next := 0 } x) 8 ((ask x 2 0).1.files.filter fun z => s.wat z.toNat) { s with heard := wrap64 (s.heard + 1) } (ask x 2 0).2 else ({ s with fin := (ask x 2 0).1.e }, (ask x 2 0).2)).1
       (if (ask x 2 0).1.e = 0 then wkM ask (fun z s x => hM ask (ff z.toNat) (fl z.toNat) (fl z.toNat) { s with next := 0 } x) 8 ((ask x 2 0).1.files.filter fun z => s.wat z.toNat) { s with heard := wrap64 (s.heard + 1) } (ask x 2 0).2 else ({ s with fin := (ask x 2 0).1.e }, (ask x 2 0).2)).2 w' := by
  have hc := hear_any L K hp h 2 0 hm2
  generalize ask x 2 0 = R at *
  obtain ⟨⟨rk, ro, rn, rf, re⟩, x'⟩ := R
  have HSB := hide (fun k (hk : S k) => (h.bound k hk).1)
  have HBW := hide (show B ≤ w.heap.size by have := h.bound b h.inB; omega)
  have HBEL := hide hbel
  have HBE := hide hB
  have HV := hide hv
  have HR := hide hr
  have HC := hide hc
  have HN := hide hn
  simp only at hfil hfl8 ⊢
  have HQ := hide hq
  have HW := hide hw
  have HFI := hide hfil
  clear hc h hbel hB hv hr hn hq hw hfil
  by_cases hre : re = 0
  · rw [if_pos hre]
    generalize hfin : wkM ask (fun z s x => hM ask (ff z.toNat) (fl z.toNat) (fl z.toNat) { s with next := 0 } x) 8 (rf.filter fun z => s.wat z.toNat) { s with heard := wrap64 (s.heard + 1) } x' = fin
    have HFIN := hide hfin
    have HRE := hide hre
    clear hre hfin
    go_enter Tryz.func97, Tryz.ntmps97
    go_wp2_with (first | (go_at_call 113; refine (unhide HC).mono ?_; rintro e w1 ⟨S', T', fv, r1, r2, r3⟩; rw [if_pos (unhide HRE)] at r1 r3; obtain ⟨r3, ri⟩ := r3; have RIN := hide ri; obtain ⟨fa, fc, rfl, _⟩ := ri; subst r3; have R1 := hide r1; have R2 := hide r2; clear r1 r2) | (go_at_call 117; refine (ready_any L ((unhide R1).alloc L _) _ rf ((unhide RIN).alloc _ (fun q hq => ⟨hq.2.1, by simp; omega, hq.2.2⟩)) hfl8 (unhide HFI)).mono ?_; rintro e w2 ⟨v2, rfl, o2, q1, q2⟩; have O2 := hide o2; have Q1 := hide q1; have Q2 := hide q2; clear o2 q1 q2))
    go_loopg [4] 8 (fun k u wr => WRel SA ask B S w b pv (fun z s x => hM ask (ff z.toNat) (fl z.toNat) (fl z.toNat) { s with next := 0 } x) nt nf (N + 8) fin k u wr)
    case atStart =>
      have o2 := unhide O2
      have hsz := ((unhide R2).alloc (.cells #[.int .i64 rk, .int .i64 ro, .int .i64 rn, .slice fa rf.length fc] 49)).size
      have hq := unhide HQ
      have hle := List.length_filter_le (fun z => s.wat z.toNat) rf
      have htr := hq.trace
      refine ⟨S', vt, T', _, x', _, unhide Q1, ((unhide R2).alloc _).trans (unhide Q2), o2.weaken hsz, ?_, unhide HFIN, ⟨hq.fuel, hq.clock, hq.armings, by show s.trace.length + s.fuel.toNat ≤ N + 8; omega⟩, ?_, (unhide HW).of rfl rfl rfl, ?_, by show (rf.filter fun z => s.wat z.toNat).length ≤ 8; omega, Nat.le_refl 8⟩
      · intro q hq hs
        have h1 := (o2.lt q hq).1
        have h2 := (((unhide R1).alloc L (.cells #[.int .i64 rk, .int .i64 ro, .int .i64 rn, .slice fa rf.length fc] 49)).bound q hs).2
        omega
      · show s.trace.length + s.fuel.toNat + (rf.filter fun z => s.wat z.toNat).length ≤ N + 8
        omega
      · intro z hz
        exact unhide HFI z (List.mem_filter.1 hz).1
    case round =>
      obtain ⟨S3, vt3, T3, s3, x3, l, r1, r2, ho, hS3, hfin, hq3, htr, hw3, hl3, hlk, hk8⟩ := hrel
      have c66 := (r1.cell 66 (by omega)).trans (by rw [img_fin])
      obtain ⟨la, lc, rfl⟩ := ho.len
      by_cases hl0 : l = []
      · have e := hfin.symm.trans (wkM_stop _ gk l s3 x3 (.inl hl0))
        have hlen : l.length = 0 := by rw [hl0]; rfl
        have R1' := hide r1
        have R2' := hide r2
        have E := hide e
        clear r1 r2 e hfin hq3 htr hw3 hl3 ho hS3
        rw [hlen]
        go_wp2
        go_end0
        rw [unhide E]
        exact ⟨rfl, S3, vt3, T3, unhide R1', unhide R2'⟩
      · have hpos : 0 < l.length := List.length_pos_iff.2 hl0
        by_cases hfi : s3.fin = 0
        · obtain ⟨g, cap, cur, hval, hgB, hg, _, _, _, hcell⟩ := ownI_parts ho hpos
          injection hval with e1 e2 e3
          subst e1 e3
          obtain ⟨k', rfl⟩ : ∃ k', gk = k' + 1 := ⟨gk - 1, by omega⟩
          have hgS : ¬ S3 g := hS3 g rfl
          have hgl : g < wr.heap.size := (ho.lt g rfl).2
          have h98 := pick_all L K hp r1 l.length hm3 hpos (by omega)
          have hlt := pk_lt hkp (n := l.length) s3 x3 hpos (by omega)
          obtain ⟨p1, p2, p3, p4, p5, p6⟩ := pk_same (ask := ask) l.length s3 x3
          have hst := fun n ok s4 x4 => wkM_step (ask := ask) (fun z s x => hM ask (ff z.toNat) (fl z.toNat) (fl z.toNat) { s with next := 0 } x) k' l s3 x3 hl0 hfi (n := n) (ok := ok) (s4 := s4) (x4 := x4)
          generalize hpk : pk ask l.length s3 x3 = P at *
          obtain ⟨n, ok, s4, x4⟩ := P
          have hfin' := hfin.symm.trans (hst n ok s4 x4 rfl)
          simp only at p1 p2 p3 p4 p5 p6 hlt h98
          clear hst hfin hpk
          have hfb : (s3.fin == 0) = true := by simpa using hfi
          have R1' := hide r1
          have R2' := hide r2
          have HO := hide ho
          have H98 := hide h98
          cases ok
          · have E := hide hfin'
            clear r1 r2 ho h98 hfin' hcell hq3 htr hw3 hl3 hlt hS3 hg
            generalize s3.fin = fi at *
            go_wp2_with (go_at_call 118; refine (unhide H98).mono ?_; rintro e w3 ⟨rfl, S4, T4, r4, f4⟩; have R4 := hide r4; have F4 := hide f4; clear r4 f4)
            refine bodyPost_ret (v := .tuple #[]) (by simp [results, Tryz.results97, go_sem]) rfl ?_
            have e := unhide E
            simp only [Bool.false_eq_true, if_false] at e
            rw [e]
            exact ⟨rfl, S4, vt3, T4, unhide R4, (unhide R2').trans (unhide F4)⟩
          · obtain ⟨hn0, hn1⟩ := hlt rfl
            obtain ⟨i, rfl⟩ : ∃ i : Nat, n = i := ⟨n.toNat, by omega⟩
            rw [if_pos rfl, Int.toNat_natCast] at hfin'
            have hil : i < l.length := by omega
            have hz : l.getD i 0 ∈ l := by simp [List.getD, hil]
            have hzb := hl3 _ hz
            have hcz := hcell i hil
            have hL : l.length = i + 1 + (l.length - (i + 1)) := by omega
            generalize hgz : l.getD i 0 = z at *
            have hg1 : ∀ q, Value.ownBlock (.slice (some ⟨g, 0, none⟩) l.length lc) = some q → q < wr.heap.size ∧ ¬ S3 q := fun q hq => ⟨(ho.lt q hq).2, hS3 q hq⟩
            have HG1 := hide hg1
            have HL := hide hL
            have E := hide hfin'
            have HQ3 := hide hq3
            have HT3 := hide htr
            have HW3 := hide hw3
            have HL3 := hide hl3
            have hi0 : (0 : Int) ≤ (i : Int) := by omega
            have hi1 : (i : Int) < (l.length : Int) := by omega
            have hwr : IntKind.i64.wrap ((i : Int) + 1) = (i : Int) + 1 := by rw [IntKind.wrap_i64]; omega
            have HP := hide (show s4.fuel = s3.fuel ∧ s4.clock = s3.clock ∧ s4.armings = s3.armings ∧ s4.trace = s3.trace ∧ s4.wat = s3.wat ∧ s4.tim = s3.tim from ⟨p1, p2, p3, p4, p5, p6⟩)
            clear p1 p2 p3 p4 p5 p6
            obtain ⟨z0, z8⟩ := hzb
            cases hwz : s4.wat z.toNat
            · clear r1 r2 ho h98 hcell hfin' hq3 htr hw3 hl3 hlt hS3 hg hL hg1 hz
              have HWZ := hide hwz
              clear hwz
              generalize s3.fin = fi at *
              go_wp2_with (first | (go_at_call 118; refine (unhide H98).mono ?_; rintro e w3 ⟨rfl, S4, T4, r4, f4⟩; have R4 := hide r4; have F4 := hide f4; have cz := (f4.cell g i hgl hgS).trans hcz; clear r4 f4) | (go_at_call 119; refine (delete_any ((unhide HO).fr (unhide F4) (unhide HG1)) i _ (unhide HL)).mono ?_; rintro e w4 ⟨v4, rfl, o4, g4, b4⟩; have q4 := (unhide R4).grown L g4 ((unhide F4).notIn (unhide HG1)); have cw := (q4.cell (56 + z.toNat) (by omega)).trans (by rw [img_wat _ _ _ _ (by omega), unhide HWZ]); have Q4 := hide q4; clear q4; have O4 := hide o4; have G4 := hide g4; have B4 := hide b4; clear o4 g4 b4))
              go_roundg k'
              case rel =>
                obtain ⟨p1, p2, p3, p4, p5, p6⟩ := unhide HP
                have hq3 := unhide HQ3
                have ht3 := unhide HT3
                have e : wk1 (fun z s x => hM ask (ff z.toNat) (fl z.toNat) (fl z.toNat) { s with next := 0 } x) z s4 x4 = (s4, x4) := by unfold wk1; rw [if_neg (by rw [unhide HWZ]; simp)]
                have E' := unhide E
                rw [e] at E'
                exact wrel_next (unhide Q4) (unhide R2') (unhide F4) (unhide G4) (Fr.refl S4 w4) (unhide HG1) (unhide HO) (unhide O4) (unhide B4) hil E'.symm
                  ⟨by rw [p1]; exact hq3.fuel, by rw [p2]; exact hq3.clock, by rw [p1, p3]; exact hq3.armings, by rw [p1, p4]; omega⟩ ((unhide HW3).of p5 p6 p3) (unhide HL3) hlk hk8 (by omega)
              case measure => omega
            · have hznf : z.toNat < nf := hw3.wat _ (by rw [← (unhide HP).2.2.2.2.1]; exact hwz)
              obtain ⟨ha, hcap, hpv, _, hh⟩ := unhide HV
              rcases hh with hh | ⟨hb, hoff, rfl, hh⟩
              · omega
              obtain ⟨vi, hvi, hops⟩ := hh z.toNat hznf
              have hhb : hb < w0.heap.size := World.block_lt_of_cell? w0 _ hvi
              have HVI := hide hvi
              have HOPS := hide hops
              have HWZ := hide hwz
              have HPV := hide hpv
              have hznf' : z < (nf : Int) := by omega
              have hN5 : N + 8 - (l.length - 1) ≤ 100000000 := by omega
              have HQ5 : Hid (QInv (N + 8 - (l.length - 1)) { s4 with trace := s4.trace ++ [(2, z, 0)] }) := by
                obtain ⟨p1, p2, p3, p4, p5, p6⟩ := unhide HP
                have hf := hq3.fuel
                exact hide ⟨by show 0 ≤ s4.fuel ∧ s4.fuel ≤ 5000; rw [p1]; exact hq3.fuel, by show 0 ≤ s4.clock ∧ s4.clock ≤ 1099511627776; rw [p2]; exact hq3.clock, by show 0 ≤ s4.armings ∧ s4.armings + s4.fuel ≤ 5000; rw [p1, p3]; exact hq3.armings,
                  by show (s4.trace ++ [(2, z, 0)]).length + s4.fuel.toNat ≤ _; rw [p1, p4, List.length_append]; simp only [List.length_cons, List.length_nil]; omega⟩
              have HSM : Hid (Small s4.trace.length) := by
                have p4 := (unhide HP).2.2.2.1
                exact hide (by unfold Small; rw [p4]; omega)
              clear r1 r2 ho h98 hcell hfin' hq3 htr hw3 hl3 hlt hS3 hg hL hg1 hz hwz hh hvi hops hpv
              generalize s3.fin = fi at *
              go_wp2_with (first | (go_at_call 118; refine (unhide H98).mono ?_; rintro e w3 ⟨rfl, S4, T4, r4, f4⟩; have R4 := hide r4; have F4 := hide f4; have cz := (f4.cell g i hgl hgS).trans hcz; clear r4 f4) | (go_at_call 119; refine (delete_any ((unhide HO).fr (unhide F4) (unhide HG1)) i _ (unhide HL)).mono ?_; rintro e w4 ⟨v4, rfl, o4, g4, b4⟩; have q4 := (unhide R4).grown L g4 ((unhide F4).notIn (unhide HG1)); have cw := (q4.cell (56 + z.toNat) (by omega)).trans (by rw [img_wat _ _ _ _ (by omega), unhide HWZ]); have Q4 := hide q4; clear q4; have O4 := hide o4; have G4 := hide g4; have B4 := hide b4; clear o4 g4 b4) | (go_at_call 114; refine (tell_any L (unhide Q4) 2 z 0 (unhide HSM)).mono ?_; rintro e w5 ⟨rfl, S5, vt5, r5, f5⟩; have bel := below_of (unhide HBEL) (unhide HBE) (unhide HSB) (unhide HBW) (((((unhide R2').trans (unhide F4)).grown (unhide G4) (fun q hq' => ((unhide HO).lt q hq').1)).trans f5)); have cvi := (bel.cell (p := ⟨hb, hoff + z.toNat, none⟩) hhb).trans (unhide HVI); have BEL := hide bel; clear bel; have c2 := (r5.cell 2 (by omega)).trans (by rw [img_pv _ _ _ _ (by omega), unhide HPV]); have R5 := hide r5; have F5 := hide f5; clear r5 f5) | (go_at_call 54; refine (handle_any L K hp hm hm4 hk (unhide HBE) (unhide BEL) (unhide R5) (unhide HOPS) (unhide HN _ hznf) hnt hnf (unhide HR _ hznf) (unhide HQ5) hN5).mono ?_; rintro e w6 ⟨rfl, S6, vt6, T6, r6, f6⟩; have R6 := hide r6; have F6 := hide f6; clear r6 f6))
              go_roundg k'
              case rel =>
                have hq5 := unhide HQ5
                have e : wk1 (fun z s x => hM ask (ff z.toNat) (fl z.toNat) (fl z.toNat) { s with next := 0 } x) z s4 x4 = hM ask (ff z.toNat) (fl z.toNat) (fl z.toNat) { s4 with trace := s4.trace ++ [(2, z, 0)], next := 0 } x4 := by unfold wk1; rw [if_pos (unhide HWZ)]
                have E' := unhide E
                rw [e] at E'
                obtain ⟨p1, p2, p3, p4, p5, p6⟩ := unhide HP
                exact wrel_next (unhide R6) (unhide R2') (unhide F4) (unhide G4) ((unhide F5).trans (unhide F6)) (unhide HG1) (unhide HO) (unhide O4) (unhide B4) hil E'.symm
                  (hM_inv hk _ _ _ ⟨hq5.fuel, hq5.clock, hq5.armings, hq5.trace⟩) (hM_winv (unhide HR _ hznf) _ _ _ (Int.le_refl 0) ((unhide HW3).of p5 p6 p3)) (unhide HL3) hlk hk8 (by omega)
              case measure => omega
        · have e := hfin.symm.trans (wkM_stop _ gk l s3 x3 (.inr hfi))
          have hfb : (s3.fin == 0) = false := by simpa using hfi
          have R1' := hide r1
          have R2' := hide r2
          have E := hide e
          clear r1 r2 e hfin hq3 htr hw3 hl3 ho hS3
          generalize s3.fin = fi at *
          go_wp2
          go_end0
          rw [unhide E]
          exact ⟨rfl, S3, vt3, T3, unhide R1', unhide R2'⟩
  · rw [if_neg hre]
    have HRE := hide hre
    clear hre
    go_enter Tryz.func97, Tryz.ntmps97
    go_wp2_with (go_at_call 113; refine (unhide HC).mono ?_; rintro e w1 ⟨S', T', fv, r1, r2, r3⟩; rw [if_neg (unhide HRE)] at r1 r3; subst r3; have R1 := hide r1; have R2 := hide r2; clear r1 r2)
    refine bodyPost_ret (v := .tuple #[]) (by simp [results, Tryz.results97, go_sem]) rfl ?_
    exact ⟨rfl, S', vt, T', (unhide R1).alloc L _, (unhide R2).alloc _⟩
end
end Go.Proofs.YtfmbebofllgmoaaGreatDoor
namespace Go.Proofs.YtfmbebofllgmoaaGreatDoor
open Go.RowKit Go.Sort
attribute [local go_sem ↓] Go.wp_at_zero Go.wp_at_succ

theorem neqTim (a0 b0 : Bool) (a1 a2 a3 b1 b2 b3 : Int) (w : World) : (binOp .neq 126 (.agg #[.bool a0, .int .i64 a1, .int .i64 a2, .int .i64 a3]) (.agg #[.bool b0, .int .i64 b1, .int .i64 b2, .int .i64 b3])).run Tryz.prog w = .ok (.bool (!decide ((a0, a1, a2, a3) = (b0, b1, b2, b3)))) w := by
  have u3 := Tryz.underlying3
  have a3' := Tryz.isAgg3
  have z3 := Tryz.sizeOf3
  have u4 := Tryz.underlying4
  have a4' := Tryz.isAgg4
  have z4 := Tryz.sizeOf4
  have hS : Tryz.prog.underlying 126 = some (.struct (Tryz.prog.fieldsOf 126)) := by kernel_rfl
  have hp : Tryz.prog.stoodInHeld 126 = false := by kernel_rfl
  rw [run_neq_struct, show (10000 : Nat) = 9999 + 1 from rfl, run_equalIn_agg w 9999 126 _ _ hS hp]
  simp only [Program.fieldsOf, Tryz.underlying126]
  go_simp
  by_cases h0 : a0 = b0 <;> by_cases h1 : a1 = b1 <;> by_cases h2 : a2 = b2 <;> by_cases h3 : a3 = b3 <;> simp [h0, h1, h2, h3]

theorem guard141 : Tryz.prog.eqGuardType Tryz.prog.depth 126 = false := by kernel_rfl

section
variable {σ : Type} {SA : (Nat → Prop) → World → σ → Prop} {ask : σ → Int → Int → Rep × σ} {may : Int → Int → Prop} {B : Nat} {S T : Nat → Prop} {w : World} {b : Nat} {pv : Nat → Value} {vt : Value} {s : PS} {x : σ}

/-- The timer of that number goes off. -/
def offS (s : PS) (z : Int) : PS := { s with tim := upd s.tim z.toNat (false, (s.tim z.toNat).2), trace := s.trace ++ [(1, z, 0)] }
/-- The timers that are due go off. -/
def frM (g : Int → PS → σ → PS × σ) : List TM → PS → σ → PS × σ
  | [], s, x => (s, x)
  | t :: r, s, x => if s.fin ≠ 0 then (s, x) else if s.tim t.2.2.2.toNat = t then frM g r (g t.2.2.2 (offS s t.2.2.2) x).1 (g t.2.2.2 (offS s t.2.2.2) x).2 else frM g r s x

theorem mem_due {nt nf : Nat} (h : WInv nt nf s) {t : TM} (ht : t ∈ dueS s) : 0 ≤ t.2.2.2 ∧ t.2.2.2 < nt := by
  have hp := (insertionSort_holds (lt := ltOf cfT) swoT (dueK s 8).toArray 0 (dueK s 8).toArray.size (Nat.zero_le _) (Nat.le_refl _)).1
  change t ∈ (Sort.insertionSort (ltOf cfT) (dueK s 8).toArray 0 (dueK s 8).toArray.size).toList at ht
  generalize Sort.insertionSort (ltOf cfT) (dueK s 8).toArray 0 (dueK s 8).toArray.size = d at *
  have h1 := hp.2.2
  have hz := hp.1
  have h2 : t ∈ dueK s 8 := by
    have e : d.extract 0 (dueK s 8).toArray.size = d := by rw [← hz]; simp
    rw [e] at h1
    have := h1.mem_iff.1 ht
    simpa using this
  unfold dueK at h2
  rw [List.mem_filter] at h2
  obtain ⟨h3, h4⟩ := h2
  obtain ⟨i, _, rfl⟩ := List.mem_map.1 h3
  have h5 : (s.tim i).1 = true := by simp at h4; exact h4.1
  obtain ⟨h6, h7⟩ := h.num i h5
  omega

theorem frM_winv {nt nf : Nat} (z : Int) (h : WInv nt nf s) : WInv nt nf (offS s z) := by
  have hne : ∀ i, ((offS s z).tim i).1 = true → (offS s z).tim i = s.tim i := fun i e => by
    by_cases e' : i = z.toNat
    · subst e'; simp [offS, upd] at e
    · simp [offS, upd, e']
  refine ⟨h.wat, ?_, ?_, ?_⟩
  · intro i hi; have h0 := hne i hi; rw [h0] at hi ⊢; exact h.num i hi
  · intro i hi; have h0 := hne i hi; rw [h0] at hi ⊢; exact h.arm i hi
  · intro i j hi hj he
    have h0 := hne i hi
    have h1 := hne j hj
    rw [h0] at hi he
    rw [h1] at hj he
    exact h.uni i j hi hj he

theorem box4' (w : World) (p : Bool) (x y z : Int) : (w.alloc (.cells #[.bool p, .int .i64 x, .int .i64 y, .int .i64 z] 126)).cell? ⟨w.heap.size, 0, none⟩ = some (.bool p) ∧
    (w.alloc (.cells #[.bool p, .int .i64 x, .int .i64 y, .int .i64 z] 126)).cell? ⟨w.heap.size, 1, none⟩ = some (.int .i64 x) ∧
    (w.alloc (.cells #[.bool p, .int .i64 x, .int .i64 y, .int .i64 z] 126)).cell? ⟨w.heap.size, 2, none⟩ = some (.int .i64 y) ∧
    (w.alloc (.cells #[.bool p, .int .i64 x, .int .i64 y, .int .i64 z] 126)).cell? ⟨w.heap.size, 3, none⟩ = some (.int .i64 z) := box4 w p x y z 0
theorem RI.timc (h : RI SA B S w b pv vt T s x) (i : Nat) (hi : i < 8) {t0 : Bool} {t1 t2 t3 : Int} (ht : s.tim i = (t0, t1, t2, t3)) : w.cell? ⟨b, 23 + i * 4, none⟩ = some (.bool t0) ∧ w.cell? ⟨b, 23 + i * 4 + 1, none⟩ = some (.int .i64 t1) ∧ w.cell? ⟨b, 23 + i * 4 + 2, none⟩ = some (.int .i64 t2) ∧ w.cell? ⟨b, 23 + i * 4 + 3, none⟩ = some (.int .i64 t3) := by
  refine ⟨?_, ?_, ?_, ?_⟩
  · have := h.cell (23 + i * 4 + 0) (by omega); rw [img_tim _ _ _ _ _ hi (by omega), ht] at this; exact this
  · have := h.cell (23 + i * 4 + 1) (by omega); rw [img_tim _ _ _ _ _ hi (by omega), ht] at this; exact this
  · have := h.cell (23 + i * 4 + 2) (by omega); rw [img_tim _ _ _ _ _ hi (by omega), ht] at this; exact this
  · have := h.cell (23 + i * 4 + 3) (by omega); rw [img_tim _ _ _ _ _ hi (by omega), ht] at this; exact this

theorem box_kept {W1 w5 : World} {S' S5 : Nat → Prop} {n o q : Nat} {v : Value} (f5 : Fr S' ((W1.drewN n).setCell ⟨b, o, none⟩ v) w5 S5) (hs : q < W1.heap.size) (hS : ¬ S' q) (hne : b ≠ q) (j : Nat) : w5.cell? ⟨q, j, none⟩ = W1.cell? ⟨q, j, none⟩ := by
  have h1 : ((W1.drewN n).setCell ⟨b, o, none⟩ v).heap.size = W1.heap.size := by simp [World.setCell, World.drewN]
  rw [f5.cell q j (by rw [h1]; exact hs) hS, World.cell?_setCell_other _ _ _ _ (by intro e; injection e; omega)]
  rfl

/-- How far the timers that are due have come. -/
def FRel (SA : (Nat → Prop) → World → σ → Prop) (B : Nat) (S : Nat → Prop) (w : World) (b : Nat) (pv : Nat → Value) (g : Int → PS → σ → PS × σ) (nt nf N : Nat) (l : List TM) (fin : PS × σ) (i : Value) (wr : World) : Prop :=
  ∃ k S' vt' T' s' x', k ≤ l.length ∧ i = .int .i64 (k : Nat) ∧ RI SA B S' wr b pv vt' T' s' x' ∧ Fr S w wr S' ∧ frM g (l.drop k) s' x' = fin ∧ QInv N s' ∧ s'.trace.length + s'.fuel.toNat + (l.length - k) ≤ N ∧ WInv nt nf s'

set_option maxHeartbeats 4000000 in
theorem fire_any (L : SrcLaw SA) {rb tyS fnS : Nat} (K : HearSpec SA ask may B rb tyS fnS) (hp : pv 3 = .iface tyS (.pointer (some ⟨rb, 0, none⟩))) (hm : may 1 0) (hm4 : ∀ v, 1 ≤ v → v ≤ 1000000 → may 4 v) (hk : ClockOk ask)
    {w0 : World} (hB : B = w0.heap.size) (hbel : Below w0.heap.size w0 w) (h : RI SA B S w b pv vt T s x) {N nt nf : Nat} {fl : Nat → Nat} {ff : Nat → Nat → O3} (hv : HandsIn w0 (pv 1) nt fl ff) (hn : ∀ i, i < nt → fl i ≤ 32) (hnt : nt ≤ 8) (hnf : nf ≤ 8) (hr : ∀ i, i < nt → ∀ j, j < fl i → rt (ff i j) nt nf = true)
    (hq : QInv N s) (hN : N + 8 ≤ 100000000) (hw : WInv nt nf s) :
    Calls Tryz.prog 96 #[.pointer (some ⟨b, 0, none⟩)] w fun e w' => e = .returned (.tuple #[]) ∧
      RunPost SA B S w b pv (frM (fun z s x => hM ask (ff z.toNat) (fl z.toNat) (fl z.toNat) { s with next := 0 } x) (dueS s) s x).1 (frM (fun z s x => hM ask (ff z.toNat) (fl z.toNat) (fl z.toNat) { s with next := 0 } x) (dueS s) s x).2 w' := by
  have hc := due_any L h
  have hmem := fun t (ht : t ∈ dueS s) => mem_due hw ht
  have hlen : (dueS s).length ≤ 8 := by
    have := sorted_size (dueK s 8).toArray
    have := dueK_length s 8
    unfold dueS
    simp at *
    omega
  generalize dueS s = l at *
  generalize hfin : frM (fun z s x => hM ask (ff z.toNat) (fl z.toNat) (fl z.toNat) { s with next := 0 } x) l s x = fin
  have HC := hide hc
  have HFIN := hide hfin
  have HSB := hide (fun k (hk : S k) => (h.bound k hk).1)
  have HBW := hide (show B ≤ w.heap.size by have := h.bound b h.inB; omega)
  have HBEL := hide hbel
  have HBE := hide hB
  have HV := hide hv
  have HR := hide hr
  have HN := hide hn
  have HQ := hide hq
  have HW := hide hw
  have HM := hide hmem
  clear hc h hbel hB hv hr hn hq hw hmem hfin
  go_enter Tryz.func96, Tryz.ntmps96
  go_wp2_with (go_at_call 116; refine (unhide HC).mono ?_; rintro e w1 ⟨v1, rfl, ⟨la, lc, rfl, hcell⟩, r1, r2⟩; have R1 := hide r1; have R2 := hide r2; have HCE := hide hcell; clear r1 r2 hcell)
  go_loopw [7] (fun i wr => FRel SA B S w1 b pv (fun z s x => hM ask (ff z.toNat) (fl z.toNat) (fl z.toNat) { s with next := 0 } x) nt nf (N + 8) l fin i wr) (fun i _ => l.length - (intOf i).toNat)
  case atStart =>
    have hq := unhide HQ
    have := hq.trace
    exact ⟨0, S, vt, T, s, x, Nat.zero_le _, rfl, unhide R1, Fr.refl S w1, unhide HFIN, ⟨hq.fuel, hq.clock, hq.armings, by omega⟩, by omega, unhide HW⟩
  case round =>
    obtain ⟨k, S', vt', T', s', x', hkl, rfl, q1, q2, hfin, hq, htr, hw⟩ := hrel
    have c66 := (q1.cell 66 (by omega)).trans (by rw [img_fin])
    by_cases hlt : k < l.length
    · rcases unhide HCE with h0 | ⟨g, rfl, ⟨g1, g2, g3⟩, hcell⟩
      · rw [h0] at hlt; simp at hlt
      have hc0 := (q2.cell g (k * 4) g2 g3).trans (hcell k hlt 0 (by omega))
      have hc1 := (q2.cell g (k * 4 + 1) g2 g3).trans (hcell k hlt 1 (by omega))
      have hc2 := (q2.cell g (k * 4 + 2) g2 g3).trans (hcell k hlt 2 (by omega))
      have hc3 := (q2.cell g (k * 4 + 3) g2 g3).trans (hcell k hlt 3 (by omega))
      have hget : l.getD k (false, 0, 0, 0) = l[k] := by simp [List.getD, hlt]
      have hdrop : l.drop k = l[k] :: l.drop (k + 1) := by rw [List.drop_eq_getElem_cons hlt]
      have hmk := unhide HM l[k] (List.getElem_mem hlt)
      rw [hget] at hc0 hc1 hc2 hc3
      rw [hdrop] at hfin
      generalize l[k] = t at *
      obtain ⟨t0, t1, t2, z⟩ := t
      simp only [timV, if_true, if_false, Nat.succ_ne_self, Nat.reduceEqDiff] at hc0 hc1 hc2 hc3 hmk
      simp only [frM] at hfin
      obtain ⟨z0, z8⟩ := hmk
      clear hcell hget hdrop
      by_cases hfi : s'.fin = 0
      · rw [if_neg (by simp [hfi])] at hfin
        have hfb : (s'.fin == 0) = true := by simpa using hfi
        have hbw := (q1.bound b q1.inB).2
        generalize hti : s'.tim z.toNat = a at *
        obtain ⟨a0, a1, a2, a3⟩ := a
        have q1' := q1.alloc L (.cells #[.bool t0, .int .i64 t1, .int .i64 t2, .int .i64 z] 126)
        have q2' := q2.alloc (.cells #[.bool t0, .int .i64 t1, .int .i64 t2, .int .i64 z] 126)
        obtain ⟨d0, d1, d2, d3⟩ := q1'.timc z.toNat (by omega) hti
        have d66 := (q1'.cell 66 (by omega)).trans (by rw [img_fin])
        obtain ⟨e0, e1, e2, e3⟩ := box4' wr t0 t1 t2 z
        have hnq := neqTim a0 t0 a1 a2 a3 t1 t2 z
        have hgd := guard141
        have hSw : ¬ S' wr.heap.size := fun hs => by have := (q1.bound _ hs).2; omega
        have hszW : wr.heap.size < (wr.alloc (.cells #[.bool t0, .int .i64 t1, .int .i64 t2, .int .i64 z] 126)).heap.size := by simp
        generalize hW1 : wr.alloc (.cells #[.bool t0, .int .i64 t1, .int .i64 t2, .int .i64 z] 126) = W1 at *
        have HW1 := hide hW1
        have Q1 := hide q1'
        have Q2 := hide q2'
        clear q1 q2 q1' q2' hW1
        have z8' : z < 8 := by omega
        by_cases hsame : (a0, a1, a2, a3) = (t0, t1, t2, z)
        · rw [if_pos hsame] at hfin
          simp only [Prod.mk.injEq] at hsame
          obtain ⟨rfl, rfl, rfl, rfl⟩ := hsame
          have hdec : (!decide ((a0, a1, a2, a3) = (a0, a1, a2, a3))) = false := by simp
          rw [hdec] at hnq
          have hznt : a3.toNat < nt := by omega
          obtain ⟨ha, hcap, hpv, _, hh⟩ := unhide HV
          rcases hh with hh | ⟨hb, hoff, rfl, hh⟩
          · omega
          obtain ⟨vi, hvi, hops⟩ := hh a3.toNat hznt
          have hhb : hb < w0.heap.size := World.block_lt_of_cell? w0 _ hvi
          have HVI := hide hvi
          have HOPS := hide hops
          have HPV := hide hpv
          have HTI := hide hti
          have HSM : Hid (Small s'.trace.length) := hide (by unfold Small; omega)
          have hSb : S b ∨ w1.heap.size ≤ b := by
            by_cases hs : S b
            · exact .inl hs
            · exact .inr (Nat.le_of_not_lt fun hl => hs ((unhide Q2).old b hl (unhide Q1).inB))
          have hN5 : N + 8 - (l.length - (k + 1)) ≤ 100000000 := by omega
          have HQ5 : Hid (QInv (N + 8 - (l.length - (k + 1))) (offS s' a3)) := hide ⟨hq.fuel, hq.clock, hq.armings, by show (s'.trace ++ [(1, a3, 0)]).length + s'.fuel.toNat ≤ _; rw [List.length_append]; simp only [List.length_cons, List.length_nil]; omega⟩
          have fz := (unhide Q1).free (23 + a3.toNat * 4) (by omega)
          have E := hide hfin
          have HQ' := hide hq
          have HT := hide htr
          have HW' := hide hw
          clear hfin hq htr hw hdec hh hvi hops hpv hti
          generalize s'.fin = fi at *
          go_wp2
          rw [unhide HW1]
          go_quiet (fail)
          go_wp2
          go_region
          go_wp2_with (go_at_call 114; refine (tell_any L (((unhide Q1).drewN L (nq + 1)).set L (23 + a3.toNat * 4) (.bool false) _ (by omega) (set_armed pv vt' s' a3.toNat false (by omega)) rfl) 1 a3 0 (unhide HSM)).mono ?_; rintro e w5 ⟨rfl, S5, vt5, r5, f5⟩; have cb := (box_kept f5 hszW hSw (by omega) 3).trans e3; have fr5 := (((unhide Q2).drewN (nq + 1)).setCell ⟨b, 23 + a3.toNat * 4, none⟩ (.bool false) hSb).trans f5; have bel := below_of (unhide HBEL) (unhide HBE) (unhide HSB) (unhide HBW) ((unhide R2).trans fr5); have cvi := (bel.cell (p := ⟨hb, hoff + a3.toNat, none⟩) hhb).trans (unhide HVI); have BEL := hide (below_of (unhide HBEL) (unhide HBE) (unhide HSB) (unhide HBW) ((unhide R2).trans fr5.drew)); clear bel; have c1 := (r5.cell 1 (by omega)).trans (by rw [img_pv _ _ _ _ (by omega), unhide HPV]); have R5 := hide (r5.drew L); have F5 := hide fr5.drew; have hbw5 := (r5.bound b r5.inB).2; clear r5 f5 fr5)
          clear e0 e1 e2 e3 d0 d1 d2 d3 hc0 hc1 hc2 hc3
          go_region_with (go_at_call 54; refine (handle_any L K hp hm hm4 hk (unhide HBE) (unhide BEL) (unhide R5) (unhide HOPS) (unhide HN _ hznt) hnt hnf (unhide HR _ hznt) (unhide HQ5) hN5).mono ?_; rintro e w6 ⟨rfl, S6, vt6, T6, r6, f6⟩; have R6 := hide r6; have F6 := hide f6; clear r6 f6)
          all_goals
            go_wp2
            go_roundw
            case rel =>
              have hq5 := unhide HQ5
              have hi := hM_inv hk (N := N + 8 - (l.length - (k + 1))) (n := fl a3.toNat) (f := ff a3.toNat) (fl a3.toNat) { offS s' a3 with next := 0 } x' ⟨hq5.fuel, hq5.clock, hq5.armings, hq5.trace⟩
              have ht := hi.trace
              exact ⟨k + 1, S6, vt6, T6, _, _, hlt, by go_num, unhide R6, (unhide F5).trans (unhide F6), unhide E, ⟨hi.fuel, hi.clock, hi.armings, Nat.le_trans ht (Nat.sub_le _ _)⟩, Nat.le_trans (Nat.add_le_add_right ht _) (by omega), hM_winv (unhide HR _ hznt) _ _ _ (Int.le_refl 0) ((frM_winv a3 (unhide HW')).of rfl rfl rfl)⟩
            case measure => simp [intOf]; omega
        · rw [if_neg hsame] at hfin
          have hdec : (!decide ((a0, a1, a2, a3) = (t0, t1, t2, z))) = true := by simp only [hsame]; rfl
          rw [hdec] at hnq
          have E := hide hfin
          have HQ' := hide hq
          have HT := hide htr
          have HW' := hide hw
          clear hfin hq htr hw hdec
          generalize s'.fin = fi at *
          go_wp2
          rw [unhide HW1]
          go_quiet (fail)
          go_wp2
          go_roundw
          case rel =>
            have hq := unhide HQ'
            have htr := unhide HT
            exact ⟨k + 1, S', vt', T', s', x', hlt, by go_num, (unhide Q1).drewN L nq, (unhide Q2).drewN nq, unhide E, hq, by omega, unhide HW'⟩
          case measure => simp [intOf]; omega
      · rw [if_pos hfi] at hfin
        have hfb : (s'.fin == 0) = false := by simpa using hfi
        have E := hide hfin
        have Q1 := hide q1
        have Q2 := hide q2
        have hbw := (q1.bound b q1.inB).2
        obtain ⟨n1, n2⟩ := ne_size hbw
        clear q1 q2 hfin hq htr hw hfi
        generalize s'.fin = fi at *
        go_wp2
        refine bodyPost_ret (v := .tuple #[]) (by simp [results, Tryz.results96, go_sem]) rfl ?_
        rw [← unhide E]
        exact ⟨rfl, S', vt', T', (unhide Q1).alloc L _, (unhide R2).trans ((unhide Q2).alloc _)⟩
    · have e : l.drop k = [] := List.drop_of_length_le (by omega)
      rw [e] at hfin
      have E := hide (show (s', x') = fin from hfin)
      have Q1 := hide q1
      have Q2 := hide q2
      clear q1 q2 hfin hq htr hw e
      generalize s'.fin = fi at *
      go_wp2
      go_end0
      rw [← unhide E]
      exact ⟨rfl, S', vt', T', unhide Q1, (unhide R2).trans (unhide Q2)⟩
end
end Go.Proofs.YtfmbebofllgmoaaGreatDoor
namespace Go.Proofs.YtfmbebofllgmoaaGreatDoor
open Go.RowKit Go.Sort

/-- A program: how many operations the start has, and which; how many timers and files; for each how many operations, and which. -/
structure Pg where
  sn : Nat
  sf : Nat → O3
  tn : Nat
  tl : Nat → Nat
  tf : Nat → Nat → O3
  fn : Nat
  fl : Nat → Nat
  ff : Nat → Nat → O3

/-- A program by Check. -/
structure PgOk (p : Pg) : Prop where
  tn : p.tn ≤ 8
  fn : p.fn ≤ 8
  sl : p.sn ≤ 32
  tl : ∀ i, i < p.tn → p.tl i ≤ 32
  fl : ∀ i, i < p.fn → p.fl i ≤ 32
  sr : ∀ j, j < p.sn → rt (p.sf j) p.tn p.fn = true
  tr : ∀ i, i < p.tn → ∀ j, j < p.tl i → rt (p.tf i j) p.tn p.fn = true
  fr : ∀ i, i < p.fn → ∀ j, j < p.fl i → rt (p.ff i j) p.tn p.fn = true

section
variable {σ : Type} {ask : σ → Int → Int → Rep × σ}
def gT (ask : σ → Int → Int → Rep × σ) (p : Pg) (z : Int) (s : PS) (x : σ) : PS × σ := hM ask (p.tf z.toNat) (p.tl z.toNat) (p.tl z.toNat) { s with next := 0 } x
def gF (ask : σ → Int → Int → Rep × σ) (p : Pg) (z : Int) (s : PS) (x : σ) : PS × σ := hM ask (p.ff z.toNat) (p.fl z.toNat) (p.fl z.toNat) { s with next := 0 } x
/-- The ready files. -/
def wakeM (ask : σ → Int → Int → Rep × σ) (p : Pg) (s : PS) (x : σ) : PS × σ :=
  if (ask x 2 0).1.e = 0 then wkM ask (gF ask p) 8 ((ask x 2 0).1.files.filter fun z => s.wat z.toNat) { s with heard := wrap64 (s.heard + 1) } (ask x 2 0).2 else ({ s with fin := (ask x 2 0).1.e }, (ask x 2 0).2)
/-- A turn. -/
def turnM (ask : σ → Int → Int → Rep × σ) (p : Pg) (s : PS) (x : σ) : PS × σ :=
  if idleB s then ({ s with fin := 2 }, x)
  else if ckB s (ask x 1 0).1 then
    (if (frM (gT ask p) (dueS (ckS s (ask x 1 0).1)) (ckS s (ask x 1 0).1) (ask x 1 0).2).1.fin = 0 then wakeM ask p (frM (gT ask p) (dueS (ckS s (ask x 1 0).1)) (ckS s (ask x 1 0).1) (ask x 1 0).2).1 (frM (gT ask p) (dueS (ckS s (ask x 1 0).1)) (ckS s (ask x 1 0).1) (ask x 1 0).2).2
     else frM (gT ask p) (dueS (ckS s (ask x 1 0).1)) (ckS s (ask x 1 0).1) (ask x 1 0).2)
  else (ckS s (ask x 1 0).1, (ask x 1 0).2)
/-- Turns, k at most. -/
def turnsM (ask : σ → Int → Int → Rep × σ) (p : Pg) : Nat → PS → σ → PS × σ
  | 0, s, x => (s, x)
  | k + 1, s, x => if s.fin = 0 then turnsM ask p k (turnM ask p s x).1 (turnM ask p s x).2 else (s, x)

/-- The source's answers: no question makes more of its clocks, and a clock that is heard is one less; batches are batches. -/
structure SrcOk (ask : σ → Int → Int → Rep × σ) (mes : σ → Nat) : Prop where
  le : ∀ x k o, mes (ask x k o).2 ≤ mes x
  lt : ∀ x, (ask x 1 0).1.e = 0 → mes (ask x 1 0).2 < mes x
  clock : ClockOk ask
  pick : PickOk ask
  files : ∀ x z, z ∈ (ask x 2 0).1.files → 0 ≤ z ∧ z < 8
  most : ∀ x, (ask x 2 0).1.files.length ≤ 8

variable {mes : σ → Nat}
theorem opM_mes (h : SrcOk ask mes) (o : O3) (s : PS) (x : σ) : mes (opM ask o s x).2 ≤ mes x := by
  unfold opM
  have h1 := h.le x 1 0
  have h4 := h.le x 4 o.2.2
  have h0 := Nat.le_refl (mes x)
  exact ite_ok (P := fun q : PS × σ => mes q.2 ≤ mes x) h0 (ite_ok (P := fun q : PS × σ => mes q.2 ≤ mes x) h0 (ite_ok (P := fun q : PS × σ => mes q.2 ≤ mes x) h0 (ite_ok (P := fun q : PS × σ => mes q.2 ≤ mes x) h0 (ite_ok (P := fun q : PS × σ => mes q.2 ≤ mes x) h0 (ite_ok (P := fun q : PS × σ => mes q.2 ≤ mes x) h0 (ite_ok (P := fun q : PS × σ => mes q.2 ≤ mes x) h1 (ite_ok (P := fun q : PS × σ => mes q.2 ≤ mes x) h4 (ite_ok (P := fun q : PS × σ => mes q.2 ≤ mes x) h0 (ite_ok (P := fun q : PS × σ => mes q.2 ≤ mes x) h0 h0)))))))))
theorem hM_mes (h : SrcOk ask mes) {f : Nat → O3} {n : Nat} : ∀ (k : Nat) (s : PS) (x : σ), mes (hM ask f n k s x).2 ≤ mes x
  | 0, _, _ => Nat.le_refl _
  | k + 1, s, x => by
    unfold hM
    by_cases hc : s.next < n ∧ s.fin = 0
    · rw [if_pos hc]
      by_cases hf : s.fuel = 0
      · rw [if_pos hf]; exact Nat.le_refl _
      · rw [if_neg hf]; exact Nat.le_trans (hM_mes h k _ _) (opM_mes h _ _ _)
    · rw [if_neg hc]; exact Nat.le_refl _
theorem frM_mes (h : SrcOk ask mes) (p : Pg) : ∀ (l : List TM) (s : PS) (x : σ), mes (frM (gT ask p) l s x).2 ≤ mes x
  | [], _, _ => Nat.le_refl _
  | t :: r, s, x => by
    unfold frM
    refine ite_ok (P := fun q : PS × σ => mes q.2 ≤ mes x) (Nat.le_refl _) (ite_ok (P := fun q : PS × σ => mes q.2 ≤ mes x) ?_ (frM_mes h p r s x))
    exact Nat.le_trans (frM_mes h p r _ _) (hM_mes h _ _ _)
theorem pk_mes (h : SrcOk ask mes) (n : Nat) (s : PS) (x : σ) : mes (pk ask n s x).2.2.2 ≤ mes x := by
  unfold pk
  exact ite_ok (P := fun q : Int × Bool × PS × σ => mes q.2.2.2 ≤ mes x) (Nat.le_refl _) (h.le x 3 n)
theorem wk1_mes (h : SrcOk ask mes) (p : Pg) (z : Int) (s : PS) (x : σ) : mes (wk1 (gF ask p) z s x).2 ≤ mes x := by
  unfold wk1
  exact ite_ok (P := fun q : PS × σ => mes q.2 ≤ mes x) (hM_mes h _ _ _) (Nat.le_refl _)
theorem wkM_mes (h : SrcOk ask mes) (p : Pg) : ∀ (k : Nat) (l : List Int) (s : PS) (x : σ), mes (wkM ask (gF ask p) k l s x).2 ≤ mes x
  | 0, _, _, _ => Nat.le_refl _
  | k + 1, l, s, x => by
    have h1 := pk_mes h l.length s x
    unfold wkM
    refine ite_ok (P := fun q : PS × σ => mes q.2 ≤ mes x) (Nat.le_refl _) (ite_ok (P := fun q : PS × σ => mes q.2 ≤ mes x) ?_ h1)
    exact Nat.le_trans (wkM_mes h p k _ _ _) (Nat.le_trans (wk1_mes h p _ _ _) h1)
theorem wakeM_mes (h : SrcOk ask mes) (p : Pg) (s : PS) (x : σ) : mes (wakeM ask p s x).2 ≤ mes x := by
  unfold wakeM
  exact ite_ok (P := fun q : PS × σ => mes q.2 ≤ mes x) (Nat.le_trans (wkM_mes h p _ _ _ _) (h.le x 2 0)) (h.le x 2 0)
/-- A turn ends the run, or hears a clock. -/
theorem turnM_mes (h : SrcOk ask mes) (p : Pg) (s : PS) (x : σ) : (turnM ask p s x).1.fin ≠ 0 ∨ mes (turnM ask p s x).2 < mes x := by
  unfold turnM
  by_cases hi : idleB s = true
  · rw [if_pos hi]; exact .inl (by show (2 : Int) ≠ 0; omega)
  rw [if_neg hi]
  by_cases hc : ckB s (ask x 1 0).1 = true
  · rw [if_pos hc]
    have he : (ask x 1 0).1.e = 0 := by unfold ckB at hc; simp at hc; exact hc.1
    have h1 := h.lt x he
    refine .inr ?_
    have h2 := frM_mes h p (dueS (ckS s (ask x 1 0).1)) (ckS s (ask x 1 0).1) (ask x 1 0).2
    refine ite_ok (P := fun q : PS × σ => mes q.2 < mes x) ?_ (by omega)
    have h3 := wakeM_mes h p (frM (gT ask p) (dueS (ckS s (ask x 1 0).1)) (ckS s (ask x 1 0).1) (ask x 1 0).2).1 (frM (gT ask p) (dueS (ckS s (ask x 1 0).1)) (ckS s (ask x 1 0).1) (ask x 1 0).2).2
    omega
  · rw [if_neg hc]
    refine .inl ?_
    show (ckS s (ask x 1 0).1).fin ≠ 0
    unfold ckS
    by_cases he : (ask x 1 0).1.e = 0
    · rw [if_pos he]
      have hlt : (ask x 1 0).1.n < s.clock := by unfold ckB at hc; simp [he] at hc; exact hc
      rw [if_pos hlt]
      show (4 : Int) ≠ 0
      omega
    · rw [if_neg he]; exact he

/-- What a run keeps. -/
def RInv (p : Pg) (N : Nat) (s : PS) : Prop := QInv N s ∧ WInv p.tn p.fn s
theorem QInv.mono {N N' : Nat} {s : PS} (h : QInv N s) (hN : N ≤ N') : QInv N' s := ⟨h.fuel, h.clock, h.armings, Nat.le_trans h.trace hN⟩
theorem RInv.mono {p : Pg} {N N' : Nat} {s : PS} (h : RInv p N s) (hN : N ≤ N') : RInv p N' s := ⟨h.1.mono hN, h.2⟩
theorem hM_rinv (hs : SrcOk ask mes) {p : Pg} {N n : Nat} {f : Nat → O3} (hr : ∀ i, i < n → rt (f i) p.tn p.fn = true) (s : PS) (x : σ) (h : RInv p N s) : RInv p N (hM ask f n n { s with next := 0 } x).1 :=
  ⟨hM_inv hs.clock _ _ _ ⟨h.1.fuel, h.1.clock, h.1.armings, h.1.trace⟩, hM_winv hr _ _ _ (Int.le_refl 0) (h.2.of rfl rfl rfl)⟩
theorem told_rinv {p : Pg} {N : Nat} {s : PS} {o : O3} (h : RInv p N s) : RInv p (N + 1) { s with trace := s.trace ++ [o] } := by
  have h1 := h.1.trace
  exact ⟨⟨h.1.fuel, h.1.clock, h.1.armings, by show (s.trace ++ [o]).length + s.fuel.toNat ≤ N + 1; rw [List.length_append]; simp only [List.length_cons, List.length_nil]; omega⟩, h.2.of rfl rfl rfl⟩
theorem off_rinv {p : Pg} {N : Nat} {s : PS} (z : Int) (h : RInv p N s) : RInv p (N + 1) (offS s z) := by
  have h1 := told_rinv (o := (1, z, 0)) h
  exact ⟨⟨h1.1.fuel, h1.1.clock, h1.1.armings, h1.1.trace⟩, frM_winv z h.2⟩
theorem frM_rinv (hs : SrcOk ask mes) {p : Pg} (hp : PgOk p) : ∀ (l : List TM) (N : Nat) (s : PS) (x : σ), (∀ t, t ∈ l → 0 ≤ t.2.2.2 ∧ t.2.2.2 < p.tn) → RInv p N s → RInv p (N + l.length) (frM (gT ask p) l s x).1
  | [], _, _, _, _, h => h
  | t :: r, N, s, x, hl, h => by
    unfold frM
    have h1 := hl t (List.mem_cons_self ..)
    have hr := fun t ht => hl t (List.mem_cons_of_mem _ ht)
    refine ite_ok (P := fun q : PS × σ => RInv p (N + (t :: r).length) q.1) (h.mono (Nat.le_add_right _ _)) (ite_ok (P := fun q : PS × σ => RInv p (N + (t :: r).length) q.1) ?_ ?_)
    · have h2 := frM_rinv hs hp r (N + 1) _ (gT ask p t.2.2.2 (offS s t.2.2.2) x).2 hr (hM_rinv hs (hp.tr t.2.2.2.toNat (by omega)) _ x (off_rinv t.2.2.2 h))
      exact h2.mono (by simp; omega)
    · exact (frM_rinv hs hp r N s x hr h).mono (by simp)
theorem pk_rinv {p : Pg} {N : Nat} {s : PS} (n : Nat) (x : σ) (h : RInv p N s) : RInv p N (pk ask n s x).2.2.1 := by
  obtain ⟨p1, p2, p3, p4, p5, p6⟩ := pk_same (ask := ask) n s x
  exact ⟨h.1.of p1 p2 p3 p4, h.2.of p5 p6 p3⟩
theorem wk1_rinv (hs : SrcOk ask mes) {p : Pg} (hp : PgOk p) {N : Nat} {s : PS} (z : Int) (x : σ) (h : RInv p N s) : RInv p (N + 1) (wk1 (gF ask p) z s x).1 := by
  unfold wk1
  by_cases hw : s.wat z.toNat = true
  · rw [if_pos hw]; exact hM_rinv hs (hp.fr z.toNat (h.2.wat _ hw)) _ x (told_rinv h)
  · rw [if_neg hw]; exact h.mono (Nat.le_add_right _ _)
theorem wkM_rinv (hs : SrcOk ask mes) {p : Pg} (hp : PgOk p) : ∀ (k : Nat) (N : Nat) (l : List Int) (s : PS) (x : σ), RInv p N s → RInv p (N + k) (wkM ask (gF ask p) k l s x).1
  | 0, _, _, _, _, h => h
  | k + 1, N, l, s, x, h => by
    unfold wkM
    have h1 := pk_rinv (ask := ask) l.length x h
    refine ite_ok (P := fun q : PS × σ => RInv p (N + (k + 1)) q.1) (h.mono (Nat.le_add_right _ _)) (ite_ok (P := fun q : PS × σ => RInv p (N + (k + 1)) q.1) ?_ (h1.mono (Nat.le_add_right _ _)))
    exact (wkM_rinv hs hp k (N + 1) _ _ _ (wk1_rinv hs hp _ _ h1)).mono (by omega)
theorem wakeM_rinv (hs : SrcOk ask mes) {p : Pg} (hp : PgOk p) {N : Nat} {s : PS} (x : σ) (h : RInv p N s) : RInv p (N + 8) (wakeM ask p s x).1 := by
  unfold wakeM
  refine ite_ok (P := fun q : PS × σ => RInv p (N + 8) q.1) (wkM_rinv hs hp 8 N _ _ _ ⟨h.1.of rfl rfl rfl rfl, h.2.of rfl rfl rfl⟩) ?_
  exact ⟨(h.1.mono (Nat.le_add_right N 8)).of rfl rfl rfl rfl, h.2.of rfl rfl rfl⟩
theorem ckS_rinv (hs : SrcOk ask mes) {p : Pg} {N : Nat} {s : PS} (x : σ) (h : RInv p N s) : RInv p N (ckS s (ask x 1 0).1) := by
  refine ⟨?_, ckS_winv h.2 _⟩
  unfold ckS
  by_cases e : (ask x 1 0).1.e = 0
  · rw [if_pos e]
    exact ite_ok (P := QInv N) ⟨h.1.fuel, h.1.clock, h.1.armings, h.1.trace⟩ ⟨h.1.fuel, hs.clock x e, h.1.armings, h.1.trace⟩
  · rw [if_neg e]; exact ⟨h.1.fuel, h.1.clock, h.1.armings, h.1.trace⟩
theorem due_length (s : PS) : (dueS s).length ≤ 8 := by
  have := sorted_size (dueK s 8).toArray
  have := dueK_length s 8
  unfold dueS
  simp at *
  omega
theorem turnM_rinv (hs : SrcOk ask mes) {p : Pg} (hp : PgOk p) {N : Nat} {s : PS} (x : σ) (h : RInv p N s) : RInv p (N + 16) (turnM ask p s x).1 := by
  have hc := ckS_rinv hs x h
  unfold turnM
  refine ite_ok (P := fun q : PS × σ => RInv p (N + 16) q.1) ?_ (ite_ok (P := fun q : PS × σ => RInv p (N + 16) q.1) ?_ (hc.mono (Nat.le_add_right _ _)))
  · exact ⟨(h.1.mono (Nat.le_add_right N 16)).of rfl rfl rfl rfl, h.2.of rfl rfl rfl⟩
  · have h1 := (frM_rinv hs hp (dueS (ckS s (ask x 1 0).1)) N _ (ask x 1 0).2 (fun t ht => mem_due hc.2 ht) hc).mono (show N + (dueS (ckS s (ask x 1 0).1)).length ≤ N + 8 by have := due_length (ckS s (ask x 1 0).1); omega)
    exact ite_ok (P := fun q : PS × σ => RInv p (N + 16) q.1) ((wakeM_rinv hs hp _ h1).mono (by omega)) (h1.mono (by omega))
end
end Go.Proofs.YtfmbebofllgmoaaGreatDoor
namespace Go.Proofs.YtfmbebofllgmoaaGreatDoor
open Go.RowKit
attribute [local go_sem ↓] Go.wp_at_zero Go.wp_at_succ

theorem mod_arith (n of : Int) (h1 : 1 ≤ of) (h2 : of ≤ 1000000) : (wrap64 (n.tmod of + of)).tmod of = n % of := by
  have b1 : n.tmod of < of := Int.tmod_lt_of_pos n (by omega)
  have b2 : -of < n.tmod of := by
    have := Int.tmod_lt_of_pos (-n) (show 0 < of by omega)
    rw [Int.neg_tmod] at this
    omega
  have e : wrap64 (n.tmod of + of) = n.tmod of + of := by unfold wrap64; omega
  rw [e, Int.tmod_eq_emod_of_nonneg (by omega), Int.add_emod_right, Int.tmod_def, Int.sub_mul_emod_self_left]
theorem modulo_any (n of : Int) (w : World) (h1 : 1 ≤ of) (h2 : of ≤ 1000000) : Calls Tryz.prog 185 #[.int .i64 n, .int .i64 of] w fun e w' => e = .returned (.int .i64 (n % of)) ∧ w' = w := by
  have hne : (of == 0) = false := by simp; omega
  have hne' : of ≠ 0 := by omega
  go_enter Tryz.func185, Tryz.ntmps185
  go_wp2
  go_ret
  rw [← mod_arith n of h1 h2]
  exact ⟨rfl, rfl⟩

set_option maxHeartbeats 1000000 in
theorem heard_any (k o n : Int) (fv : Value) (a : Option Addr) (l c : Nat) (hfv : fv = .slice a l c) (ok : Bool) (w : World) : Calls Tryz.prog 183 #[.agg #[.int .i64 k, .int .i64 o, .int .i64 n, fv], .bool ok] w fun e w' =>
    e = .returned (.tuple #[if ok then .agg #[.int .i64 k, .int .i64 o, .int .i64 n, fv] else .agg #[.int .i64 0, .int .i64 0, .int .i64 0, .slice none 0 0], .int .i64 (if ok then 0 else 5)]) ∧ Fr (fun _ => False) w w' (fun _ => False) := by
  subst hfv
  cases ok
  · go_enter Tryz.func183, Tryz.ntmps183
    go_wp2
    refine bodyPost_ret (v := .tuple #[.agg #[.int .i64 0, .int .i64 0, .int .i64 0, .slice none 0 0], .int .i64 5]) (by simp [results, Tryz.results183, go_sem]) rfl ?_
    exact ⟨rfl, ((Fr.refl _ w).alloc _).alloc _⟩
  · go_enter Tryz.func183, Tryz.ntmps183
    go_wp2
    refine bodyPost_ret (v := .tuple #[.agg #[.int .i64 k, .int .i64 o, .int .i64 n, .slice a l c], .int .i64 0]) (by simp [results, Tryz.results183, go_sem]) rfl ?_
    exact ⟨rfl, ((Fr.refl _ w).alloc _).alloc _⟩

theorem frozen_any {w : World} {g e : Nat} {cur : Array Value} (hb : w.heap[g]? = some (.cells cur e (0, 0))) (j : Nat) : w.frozen? ⟨g, j, none⟩ = false := by simp [World.frozen?, hb]

/-- The first k files that are named. -/
def filesK (f : Nat → Bool) (k : Nat) : List Int := ((List.range k).filter f).map fun (j : Nat) => (j : Int)
theorem filesK_succ (f : Nat → Bool) (k : Nat) : filesK f (k + 1) = filesK f k ++ (if f k then [(k : Int)] else []) := by
  unfold filesK
  rw [List.range_succ, List.filter_append, List.map_append]
  congr 1
  cases h : f k <;> simp [h]
theorem filesK_length (f : Nat → Bool) (k : Nat) : (filesK f k).length ≤ k := by
  unfold filesK
  have := List.length_filter_le f (List.range k)
  simpa using this
theorem filesK_mem (f : Nat → Bool) (k : Nat) (z : Int) (h : z ∈ filesK f k) : 0 ≤ z ∧ z < k := by
  unfold filesK at h
  obtain ⟨j, hj, rfl⟩ := List.mem_map.1 h
  have := List.mem_range.1 (List.mem_filter.1 hj).1
  omega
/-- Which files a list names. -/
def namedB (l : List Int) (j : Nat) : Bool := l.contains (j : Int)
def boolL (f : Nat → Bool) : List Value := (List.range 8).map fun j => .bool (f j)
theorem index_b0 (f : Nat → Bool) (w : World) : (Instr.index 128 (.agg (boolL f).toArray) (.int .i64 0)).run Tryz.prog w = .ok (.bool (f 0)) w := by kernel_rfl
theorem index_b1 (f : Nat → Bool) (w : World) : (Instr.index 128 (.agg (boolL f).toArray) (.int .i64 1)).run Tryz.prog w = .ok (.bool (f 1)) w := by kernel_rfl
theorem index_b2 (f : Nat → Bool) (w : World) : (Instr.index 128 (.agg (boolL f).toArray) (.int .i64 2)).run Tryz.prog w = .ok (.bool (f 2)) w := by kernel_rfl
theorem index_b3 (f : Nat → Bool) (w : World) : (Instr.index 128 (.agg (boolL f).toArray) (.int .i64 3)).run Tryz.prog w = .ok (.bool (f 3)) w := by kernel_rfl
theorem index_b4 (f : Nat → Bool) (w : World) : (Instr.index 128 (.agg (boolL f).toArray) (.int .i64 4)).run Tryz.prog w = .ok (.bool (f 4)) w := by kernel_rfl
theorem index_b5 (f : Nat → Bool) (w : World) : (Instr.index 128 (.agg (boolL f).toArray) (.int .i64 5)).run Tryz.prog w = .ok (.bool (f 5)) w := by kernel_rfl
theorem index_b6 (f : Nat → Bool) (w : World) : (Instr.index 128 (.agg (boolL f).toArray) (.int .i64 6)).run Tryz.prog w = .ok (.bool (f 6)) w := by kernel_rfl
theorem index_b7 (f : Nat → Bool) (w : World) : (Instr.index 128 (.agg (boolL f).toArray) (.int .i64 7)).run Tryz.prog w = .ok (.bool (f 7)) w := by kernel_rfl
theorem index_b (f : Nat → Bool) (i : Nat) (hi : i < 8) (w : World) : (Instr.index 128 (.agg (boolL f).toArray) (.int .i64 (i : Int))).run Tryz.prog w = .ok (.bool (f i)) w := by
  have hc : i = 0 ∨ i = 1 ∨ i = 2 ∨ i = 3 ∨ i = 4 ∨ i = 5 ∨ i = 6 ∨ i = 7 := by omega
  rcases hc with rfl | rfl | rfl | rfl | rfl | rfl | rfl | rfl
  · exact index_b0 f w
  · exact index_b1 f w
  · exact index_b2 f w
  · exact index_b3 f w
  · exact index_b4 f w
  · exact index_b5 f w
  · exact index_b6 f w
  · exact index_b7 f w
def NamedAt (w : World) (b : Nat) (f : Nat → Bool) : Prop := ∀ j, j < 8 → w.cell? ⟨b, j, none⟩ = some (.bool (f j)) ∧ w.frozen? ⟨b, j, none⟩ = false
theorem NamedAt.set {w : World} {b : Nat} {f : Nat → Bool} (h : NamedAt w b f) (z : Nat) : NamedAt (w.setCell ⟨b, z, none⟩ (.bool true)) b (upd f z true) := by
  intro j hj
  obtain ⟨h1, h2⟩ := h j hj
  refine ⟨?_, by simpa using h2⟩
  by_cases e : j = z
  · subst e
    rw [World.cell?_setCell_same' _ _ _ (by rw [h1]; rfl)]
    simp [upd]
  · rw [World.cell?_setCell_other _ _ _ _ (by intro he; injection he; omega), h1]
    simp [upd, e]
theorem NamedAt.congr {w : World} {b : Nat} {f g : Nat → Bool} (h : NamedAt w b f) (he : ∀ j, j < 8 → g j = f j) : NamedAt w b g := fun j hj => by rw [he j hj]; exact h j hj
/-- The files that a list names, as a list that rises. -/
def filesL (l : List Int) : List Int := filesK (namedB l) 8

set_option maxHeartbeats 2000000 in
theorem files_any {w : World} {v : Value} {l : List Int} {P : Nat → Prop} (hP : ∀ q, P q → q < w.heap.size) (hl : IntsIn w v l P) (hn : l.length ≤ 100000000) :
    Calls Tryz.prog 184 #[v] w fun e w' => ∃ v', e = .returned v' ∧ OwnI w' w.heap.size v' (filesL l) ∧ Fr (fun _ => False) w w' (fun _ => False) := by
  obtain ⟨a, c, rfl, hc⟩ := hl
  have HC := hide hc
  have HP := hide hP
  clear hc hP
  go_enter Tryz.func184, Tryz.ntmps184
  go_wp2
  go_loopw [11] (fun i wr => ∃ k : Nat, k ≤ l.length ∧ i = .int .i64 k ∧ NamedAt wr w.heap.size (namedB (l.take k)) ∧ Fr (fun _ => False) w wr (fun _ => False) ∧ w.heap.size < wr.heap.size) (fun i _ => l.length - (intOf i).toNat)
  case atStart =>
    have hrow := heap_alloc_new w (.cells #[.bool false, .bool false, .bool false, .bool false, .bool false, .bool false, .bool false, .bool false] 128)
    refine ⟨0, Nat.zero_le _, rfl, fun j hj => ⟨?_, frozen_any hrow j⟩, (Fr.refl _ w).alloc _, by simp⟩
    rw [cell_of_row _ _ j _ 128 (0, 0) hrow]
    have hc : j = 0 ∨ j = 1 ∨ j = 2 ∨ j = 3 ∨ j = 4 ∨ j = 5 ∨ j = 6 ∨ j = 7 := by omega
    rcases hc with rfl | rfl | rfl | rfl | rfl | rfl | rfl | rfl <;> rfl
  case round =>
    obtain ⟨k, hk, rfl, hna, hf, hsz⟩ := hrel
    by_cases hlt : k < l.length
    · rcases unhide HC with hz | ⟨q, off, rfl, hq, hcell⟩
      · rw [hz] at hlt; simp at hlt
      have cz := (hf.cell q (off + k) (unhide HP q hq) (fun h => h)).trans (hcell k hlt)
      have hget : l.getD k 0 = l[k] := by simp [List.getD, hlt]
      rw [hget] at cz
      have htk : l.take (k + 1) = l.take k ++ [l[k]] := List.take_succ_eq_append_getElem hlt
      have HTK := hide htk
      have HNA := hide hna
      have HFR := hide hf
      clear hcell htk hget hf
      generalize l[k] = z at *
      by_cases hz : 0 ≤ z ∧ z < 8
      · obtain ⟨z0, z8⟩ := hz
        obtain ⟨cn, fz⟩ := hna z.toNat (by omega)
        clear hna
        go_wp2
        go_roundw
        case rel =>
          refine ⟨k + 1, by omega, by go_num, ?_, (unhide HFR).setCell _ _ (.inr (Nat.le_refl _)), by simpa [World.setCell] using hsz⟩
          rw [unhide HTK]
          refine ((unhide HNA).set z.toNat).congr (fun j hj => ?_)
          unfold namedB upd
          by_cases e : j = z.toNat
          · have e' : (j : Int) = z := by omega
            simp [e]
            exact .inr (by omega)
          · have e' : (j : Int) ≠ z := by omega
            simp [e, e']
        case measure => simp [intOf]; omega
      · have hzb : (decide (0 ≤ z) && decide (z < 8)) = false := by
          by_cases h0 : 0 ≤ z
          · have h8 : ¬ z < 8 := fun h => hz ⟨h0, h⟩
            simp [h8]
          · simp [h0]
        clear hna
        by_cases h0 : 0 ≤ z
        · have h8 : ¬ z < 8 := fun h => hz ⟨h0, h⟩
          go_wp2
          go_roundw
          case rel =>
            refine ⟨k + 1, by omega, by go_num, ?_, unhide HFR, hsz⟩
            rw [unhide HTK]
            refine (unhide HNA).congr (fun j hj => ?_)
            unfold namedB
            have e' : (j : Int) ≠ z := by omega
            simp [e']
          case measure => simp [intOf]; omega
        · go_wp2
          go_roundw
          case rel =>
            refine ⟨k + 1, by omega, by go_num, ?_, unhide HFR, hsz⟩
            rw [unhide HTK]
            refine (unhide HNA).congr (fun j hj => ?_)
            unfold namedB
            have e' : (j : Int) ≠ z := by omega
            simp [e']
          case measure => simp [intOf]; omega
    · have e : l.take k = l := List.take_of_length_le (by omega)
      rw [e] at hna
      have hfl : filesL l = filesK (namedB l) 8 := rfl
      generalize namedB l = f at *
      have c0 := (hna 0 (by omega)).1
      have c1 := (hna 1 (by omega)).1
      have c2 := (hna 2 (by omega)).1
      have c3 := (hna 3 (by omega)).1
      have c4 := (hna 4 (by omega)).1
      have c5 := (hna 5 (by omega)).1
      have c6 := (hna 6 (by omega)).1
      have c7 := (hna 7 (by omega)).1
      have hix : ∀ i : Nat, i < 8 → ∀ w, (Instr.index 128 (.agg #[.bool (f 0), .bool (f 1), .bool (f 2), .bool (f 3), .bool (f 4), .bool (f 5), .bool (f 6), .bool (f 7)]) (.int .i64 (i : Int))).run Tryz.prog w = .ok (.bool (f i)) w := fun i hi w => index_b f i hi w
      have HX := hide hix
      have HFL := hide hfl
      have HFR := hide hf
      clear hix hfl hf hna e
      go_wp2
      generalize hag : (#[.bool (f 0), .bool (f 1), .bool (f 2), .bool (f 3), .bool (f 4), .bool (f 5), .bool (f 6), .bool (f 7)] : Array Value) = A at *
      go_loopw [6, 25] (fun u i wr' => ∃ k : Nat, k ≤ 8 ∧ i = .int .i64 k ∧ OwnI wr' w.heap.size u (filesK f k) ∧ Fr (fun _ => False) w wr' (fun _ => False)) (fun _ i _ => 8 - (intOf i).toNat)
      case atStart => exact ⟨0, Nat.zero_le _, rfl, World.ownsRow_nil _ _ _ _, unhide HFR⟩
      case round =>
        obtain ⟨k, hk, rfl, ho, hf⟩ := hrel
        by_cases hlt : k < 8
        · have ix := fun w => unhide HX k hlt w
          have HSU := hide (filesK_succ f k)
          have HLE := hide (show (filesK f k).length ≤ 1000 by have := filesK_length f k; omega)
          have hsz : w.heap.size ≤ wr.heap.size := hf.size
          have HO := hide ho
          have HNE := hide ho.lt
          have HF := hide hf
          clear ho hf
          cases hfk : f k
          · rw [hfk] at ix
            have HFK := hide hfk
            clear hfk
            go_wp2
            go_roundw
            case rel =>
              refine ⟨k + 1, by omega, by go_num, ?_, unhide HF⟩
              rw [unhide HSU, unhide HFK]
              simpa using unhide HO
            case measure => simp [intOf]; omega
          · rw [hfk] at ix
            have HFK := hide hfk
            clear hfk
            go_wp2_with (at_builtin; refine wpList_int rfl (.tmp 30) (.tmp 32) rfl rfl rfl (unhide HO) (unhide HLE) hsz ?_; intro v' w' o' g')
            go_roundw
            case rel =>
              refine ⟨k + 1, by omega, by go_num, ?_, ((unhide HF).alloc _).grown g' (fun j hj => ((unhide HNE) j hj).1)⟩
              rw [unhide HSU, unhide HFK]
              simpa using o'
            case measure => simp [intOf]; omega
        · obtain rfl : k = 8 := by omega
          go_wp2
          go_ret
          rw [unhide HFL]
          exact ⟨_, rfl, ho, hf⟩
end Go.Proofs.YtfmbebofllgmoaaGreatDoor
namespace Go.Proofs.YtfmbebofllgmoaaGreatDoor
open Go.RowKit
attribute [local go_sem ↓] Go.wp_at_zero Go.wp_at_succ

theorem conv1 (w : World) (g : Nat) (z : Int) (h : w.cell? ⟨g, 0, none⟩ = some (.int .u8 z)) : (convert 54 9 (.slice (some ⟨g, 0, none⟩) 1 1)).run Tryz.prog w = .ok (.string (ByteArray.empty.push (UInt8.ofNat z.toNat))) w := by
  rw [run_convert_bytes_string w 54 9 5 _ _ _ Tryz.underlying54 Tryz.underlying5 Tryz.underlying9]
  refine run_bytesToString w ⟨g, 0, none⟩ 1 1 [z] ?_
  go_simp
set_option maxRecDepth 20000 in
theorem varint_small (n : Nat) (w : World) (h : n < 128) : Calls Tryz.prog 132 #[.int .i64 n] w fun e w' => e = .returned (.string (ByteArray.empty.push (UInt8.ofNat n))) ∧ Fr (fun _ => False) w w' (fun _ => False) := by
  have hlt : (n : Int) < 128 := by omega
  have hwr : IntKind.u8.wrap (n : Int) = n := by simp [IntKind.wrap, IntKind.bits, IntKind.signed]; omega
  have hcv := conv1 (w.alloc (.cells #[.int .u8 n] 5)) w.heap.size n (cell_of_row _ _ 0 _ 5 (0, 0) (heap_alloc_new w _))
  rw [Int.toNat_natCast] at hcv
  go_enter Tryz.func132, Tryz.ntmps132
  go_wp2
  go_ret
  exact ⟨rfl, (Fr.refl _ w).alloc _⟩

def varG : Nat → Nat → ByteArray
  | 0, n => ByteArray.empty.push (UInt8.ofNat n)
  | f + 1, n => if n < 128 then ByteArray.empty.push (UInt8.ofNat n) else ByteArray.empty.push (UInt8.ofNat (n % 128 + 128)) ++ varG f (n / 128)
/-- The bytes of a varint. -/
def varS (n : Nat) : ByteArray := varG n n
theorem varG_more : ∀ (f g n : Nat), n ≤ f → n ≤ g → varG f n = varG g n
  | 0, 0, _, _, _ => rfl
  | 0, g + 1, n, h, _ => by
    have : n = 0 := by omega
    subst this; simp [varG]
  | f + 1, 0, n, _, h => by
    have : n = 0 := by omega
    subst this; simp [varG]
  | f + 1, g + 1, n, h, h' => by
    simp only [varG]
    by_cases hn : n < 128
    · rw [if_pos hn, if_pos hn]
    · rw [if_neg hn, if_neg hn, varG_more f g (n / 128) (by omega) (by omega)]
theorem varS_eq (n : Nat) : varS n = if n < 128 then ByteArray.empty.push (UInt8.ofNat n) else ByteArray.empty.push (UInt8.ofNat (n % 128 + 128)) ++ varS (n / 128) := by
  unfold varS
  cases n with
  | zero => simp [varG]
  | succ m =>
    conv => lhs; unfold varG
    by_cases hn : m + 1 < 128
    · rw [if_pos hn, if_pos hn]
    · rw [if_neg hn, if_neg hn, varG_more m ((m + 1) / 128) ((m + 1) / 128) (by omega) (Nat.le_refl _)]

theorem varS_size (n : Nat) : 1 ≤ (varS n).size ∧ (varS n).size ≤ n + 1 := by
  induction n using Nat.strongRecOn with
  | _ n ih =>
    rw [varS_eq]
    by_cases h : n < 128
    · rw [if_pos h]; simp
    · rw [if_neg h]
      have := ih (n / 128) (by omega)
      simp [ByteArray.size_append]
      omega

set_option maxHeartbeats 1000000 in
set_option maxRecDepth 20000 in
theorem varint_step (n : Nat) (hn : 128 ≤ n) (hm : n < 4611686018427387904) (ih : ∀ w, Calls Tryz.prog 132 #[.int .i64 (n / 128 : Nat)] w fun e w' => e = .returned (.string (varS (n / 128))) ∧ Fr (fun _ => False) w w' (fun _ => False)) (w : World) :
    Calls Tryz.prog 132 #[.int .i64 n] w fun e w' => e = .returned (.string (varS n)) ∧ Fr (fun _ => False) w w' (fun _ => False) := by
  have hlt : ¬ (n : Int) < 128 := by omega
  have hv : varS n = ByteArray.empty.push (UInt8.ofNat (n % 128 + 128)) ++ varS (n / 128) := by rw [varS_eq, if_neg (by omega)]
  have hmod : ((n : Int)).tmod 128 = ((n % 128 : Nat) : Int) := by rw [Int.tmod_eq_emod_of_nonneg (by omega)]; omega
  have hdiv : ((n : Int)).tdiv 128 = ((n / 128 : Nat) : Int) := by rw [Int.tdiv_eq_ediv_of_nonneg (by omega)]; omega
  have hql : n / 128 < 4611686018427387904 := by omega
  have hRs := (varS_size (n / 128)).2
  rw [hv]
  generalize varS (n / 128) = R at *
  generalize n / 128 = q at *
  have hr : n % 128 < 128 := by omega
  generalize n % 128 = r at *
  have hw1 : IntKind.i64.wrap ((r : Int) + 128) = (r : Int) + 128 := by rw [IntKind.wrap_i64]; omega
  have hw3 : IntKind.i64.wrap (q : Int) = q := by rw [IntKind.wrap_i64]; omega
  have hw2 : IntKind.u8.wrap ((r : Int) + 128) = (r : Int) + 128 := by simp [IntKind.wrap, IntKind.bits, IntKind.signed]; omega
  have hcv := fun W g => conv1 W g ((r : Int) + 128)
  have hz : ((r : Int) + 128).toNat = r + 128 := by omega
  rw [hz] at hcv
  generalize hP1 : ByteArray.empty.push (UInt8.ofNat (r + 128)) = P1 at *
  have hsz : ¬ 9223372036854775807 < P1.size + R.size := by
    have : P1.size = 1 := by rw [← hP1]; simp
    omega
  clear hv hz hm hql hP1 hRs
  go_enter Tryz.func132, Tryz.ntmps132
  go_wp2
  go_region_with (go_at_call 132; refine (ih _).mono ?_; rintro e w' ⟨rfl, fr⟩; have ck := fun j hj => fr.cell j 0 hj (fun h => h); have FR := hide fr; clear fr)
  all_goals
    go_wp2
    go_ret
    refine ⟨rfl, ?_⟩
    first
      | exact (((Fr.refl _ w).alloc _).drew.trans (unhide FR))
      | exact ((Fr.refl _ w).drew.trans (unhide FR)).alloc _
      | exact (((Fr.refl _ w).drew.alloc _).trans (unhide FR))

/-- varint of a number that is not below 0. -/
theorem varint_any (n : Nat) (hm : n < 4611686018427387904) : ∀ w : World, Calls Tryz.prog 132 #[.int .i64 n] w fun e w' => e = .returned (.string (varS n)) ∧ Fr (fun _ => False) w w' (fun _ => False) := by
  induction n using Nat.strongRecOn with
  | _ n ih =>
    intro w
    by_cases h : n < 128
    · rw [varS_eq, if_pos h]; exact varint_small n w h
    · exact varint_step n (by omega) hm (fun w => ih (n / 128) (by omega) (by omega) w) w
end Go.Proofs.YtfmbebofllgmoaaGreatDoor
namespace Go.Proofs.YtfmbebofllgmoaaGreatDoor
open Go.RowKit
attribute [local go_sem ↓] Go.wp_at_zero Go.wp_at_succ

def sumStep (z : Int) (b : UInt8) : Int := bits BinOp.xor IntKind.u32 z ((b.toNat : Int) % 4294967296) * 16777619 % 4294967296
def sumZ (l : List UInt8) : Int := l.foldl sumStep 2166136261
def b4 (z : Int) : ByteArray := (((ByteArray.empty.push (UInt8.ofNat (z / 16777216 % 256).toNat)).push (UInt8.ofNat (z / 65536 % 256).toNat)).push (UInt8.ofNat (z / 256 % 256).toNat)).push (UInt8.ofNat (z % 256).toNat)
/-- The four bytes of a sum. -/
def sumS (s : ByteArray) : ByteArray := b4 (sumZ s.data.toList)

theorem conv4 (w : World) (g : Nat) (a b c d : Int) (h0 : w.cell? ⟨g, 0, none⟩ = some (.int .u8 a)) (h1 : w.cell? ⟨g, 1, none⟩ = some (.int .u8 b)) (h2 : w.cell? ⟨g, 2, none⟩ = some (.int .u8 c)) (h3 : w.cell? ⟨g, 3, none⟩ = some (.int .u8 d)) :
    (convert 54 9 (.slice (some ⟨g, 0, none⟩) 4 4)).run Tryz.prog w = .ok (.string ((((ByteArray.empty.push (UInt8.ofNat a.toNat)).push (UInt8.ofNat b.toNat)).push (UInt8.ofNat c.toNat)).push (UInt8.ofNat d.toNat))) w := by
  rw [run_convert_bytes_string w 54 9 5 _ _ _ Tryz.underlying54 Tryz.underlying5 Tryz.underlying9]
  refine run_bytesToString w ⟨g, 0, none⟩ 4 4 [a, b, c, d] ?_
  go_simp

theorem sumZ_succ (l : List UInt8) (k : Nat) (h : k < l.length) : sumZ (l.take (k + 1)) = sumStep (sumZ (l.take k)) l[k] := by
  unfold sumZ
  rw [List.take_succ_eq_append_getElem h, List.foldl_append]
  rfl

def SumRel (s : ByteArray) (w : World) (h i : Value) (wr : World) : Prop := wr = w ∧ ∃ k : Nat, k ≤ s.size ∧ i = .int .i64 k ∧ h = .int .u32 (sumZ (s.data.toList.take k))

set_option maxHeartbeats 1000000 in
set_option maxRecDepth 20000 in
theorem sum_any (s : ByteArray) (hs : s.size < 4611686018427387904) (w : World) : Calls Tryz.prog 76 #[.string s] w fun e w' => e = .returned (.string (sumS s)) ∧ Fr (fun _ => False) w w' (fun _ => False) := by
  go_enter Tryz.func76, Tryz.ntmps76
  go_wp2
  go_loopw [3, 4] (fun h i wr => SumRel s w h i wr) (fun _ i _ => s.size - (intOf i).toNat)
  case atStart => exact ⟨rfl, 0, Nat.zero_le _, rfl, rfl⟩
  case round =>
    obtain ⟨rfl, k, hk, rfl, rfl⟩ := hrel
    by_cases hlt : k < s.size
    · have hz := sumZ_succ s.data.toList k (by rw [Array.length_toList]; exact hlt)
      have HZ := hide hz
      clear hz
      generalize sumZ (s.data.toList.take k) = z at *
      go_wp2
      go_roundw
      case rel =>
        refine ⟨rfl, k + 1, hlt, by go_num, ?_⟩
        rw [unhide HZ]
        rfl
      case measure => simp [intOf]; omega
    · have e : s.data.toList.take k = s.data.toList := List.take_of_length_le (by rw [Array.length_toList]; exact Nat.le_of_not_lt hlt)
      have hS : sumS s = b4 (sumZ s.data.toList) := rfl
      rw [e]
      generalize sumZ s.data.toList = z at *
      have hrow := heap_alloc_new wr (.cells #[.int .u8 (z / 16777216 % 256), .int .u8 (z / 65536 % 256), .int .u8 (z / 256 % 256), .int .u8 (z % 256)] 5)
      have hcv := conv4 (wr.alloc (.cells #[.int .u8 (z / 16777216 % 256), .int .u8 (z / 65536 % 256), .int .u8 (z / 256 % 256), .int .u8 (z % 256)] 5)) wr.heap.size _ _ _ _ (cell_of_row _ _ 0 _ 5 (0, 0) hrow) (cell_of_row _ _ 1 _ 5 (0, 0) hrow) (cell_of_row _ _ 2 _ 5 (0, 0) hrow) (cell_of_row _ _ 3 _ 5 (0, 0) hrow)
      change _ = Result.ok (Value.string (b4 z)) _ at hcv
      generalize b4 z = R at *
      have HS := hide hS
      clear hrow hS e
      go_wp2
      go_ret
      rw [unhide HS]
      exact ⟨rfl, (Fr.refl _ wr).alloc _⟩

/-- A record: length, body, sum. -/
def frameS (s : ByteArray) : ByteArray := varS s.size ++ s ++ sumS s
set_option maxHeartbeats 1000000 in
set_option maxRecDepth 20000 in
theorem frame_any (s : ByteArray) (hs : s.size < 1000000) (w : World) : Calls Tryz.prog 130 #[.string s] w fun e w' => e = .returned (.string (frameS s)) ∧ Fr (fun _ => False) w w' (fun _ => False) := by
  have h1 := varint_any s.size (by omega)
  have h2 := sum_any s (by omega)
  have hv := (varS_size s.size).2
  have h4 : (sumS s).size = 4 := by unfold sumS b4; simp
  have hf : frameS s = varS s.size ++ s ++ sumS s := rfl
  generalize varS s.size = V at *
  generalize sumS s = U at *
  generalize frameS s = R at *
  have hz1 : ¬ 9223372036854775807 < V.size + s.size := by omega
  have hz2 : ¬ 9223372036854775807 < V.size + s.size + U.size := by omega
  have HF := hide hf
  clear hv h4 hs hf
  go_enter Tryz.func130, Tryz.ntmps130
  go_wp2_with (first | (go_at_call 132; refine (h1 _).mono ?_; rintro e w1 ⟨rfl, f1⟩; have F1 := hide f1; clear f1) | (go_at_call 76; refine (h2 _).mono ?_; rintro e w2 ⟨rfl, f2⟩; have F2 := hide f2; clear f2))
  go_ret
  rw [unhide HF]
  exact ⟨rfl, (unhide F1).trans (unhide F2)⟩
end Go.Proofs.YtfmbebofllgmoaaGreatDoor
namespace Go.Proofs.YtfmbebofllgmoaaGreatDoor
open Go.RowKit
attribute [local go_sem ↓] Go.wp_at_zero Go.wp_at_succ

def one (k : Nat) : ByteArray := ByteArray.empty.push (UInt8.ofNat k)
/-- A body of kind, of and n. -/
def bodyS (k : Nat) (o n : Nat) : ByteArray := if k = 3 ∨ k = 4 then one k ++ varS o ++ varS n else one k ++ varS n
/-- Files, one behind the other. -/
def filesS (l : List Int) (r : ByteArray) : ByteArray := l.foldl (fun r z => r ++ varS z.toNat) r
/-- A body of files. -/
def batchS (l : List Int) : ByteArray := filesS l (one 2 ++ varS l.length)

theorem varS_small (n : Nat) (h : n < 4611686018427387904) : (varS n).size ≤ 64 := by
  have g : ∀ (k n : Nat), n < 128 ^ k → (varS n).size ≤ k + 1 := by
    intro k
    induction k with
    | zero => intro n hn; have : n = 0 := by omega
              subst this; rw [varS_eq, if_pos (by omega)]; simp
    | succ k ih =>
      intro n hn
      rw [varS_eq]
      by_cases h : n < 128
      · rw [if_pos h]; simp
      · rw [if_neg h]
        have := ih (n / 128) (by rw [Nat.pow_succ] at hn; omega)
        simp [ByteArray.size_append]
        omega
  have := g 9 n (by omega)
  omega

set_option maxHeartbeats 1000000 in
set_option maxRecDepth 20000 in
/-- Clocks and ends. -/
theorem body_one (k : Nat) (o n : Nat) (fv : Value) (a : Option Addr) (l c : Nat) (hfv : fv = .slice a l c) (hk : k = 1 ∨ k = 5) (hn : n < 4611686018427387904) (w : World) :
    Calls Tryz.prog 112 #[.agg #[.int .i64 k, .int .i64 o, .int .i64 n, fv]] w fun e w' => e = .returned (.string (bodyS k o n)) ∧ Fr (fun _ => False) w w' (fun _ => False) := by
  subst hfv
  have h1 := varint_any n hn
  have hs := varS_small n hn
  have hb : bodyS k o n = one k ++ varS n := by unfold bodyS; rw [if_neg (by omega)]
  have hz : ¬ 9223372036854775807 < (one k).size + (varS n).size := by
    have : (one k).size = 1 := by unfold one; simp
    omega
  have hwr : IntKind.u8.wrap (k : Int) = k := by rcases hk with rfl | rfl <;> rfl
  have hk2 : ((k : Int) == 2) = false := by rcases hk with rfl | rfl <;> rfl
  have hk3 : ((k : Int) == 3) = false := by rcases hk with rfl | rfl <;> rfl
  have hk4 : ((k : Int) == 4) = false := by rcases hk with rfl | rfl <;> rfl
  have hcv : ∀ W : World, ∀ g, W.cell? ⟨g, 0, none⟩ = some (.int .u8 k) → (convert 54 9 (.slice (some ⟨g, 0, none⟩) 1 1)).run Tryz.prog W = .ok (.string (one k)) W := fun W g h => by
    have := conv1 W g k h
    rw [Int.toNat_natCast] at this
    exact this
  generalize varS n = V at *
  generalize one k = O at *
  have HB := hide hb
  clear hb hs hk hn
  go_enter Tryz.func112, Tryz.ntmps112
  go_wp2_with (go_at_call 132; refine (h1 _).mono ?_; rintro e w1 ⟨rfl, f1⟩; have F1 := hide f1; clear f1)
  go_ret
  rw [unhide HB]
  exact ⟨rfl, (((Fr.refl _ w).alloc _).alloc _).trans (unhide F1)⟩

set_option maxHeartbeats 1000000 in
set_option maxRecDepth 20000 in
/-- Picks and lots. -/
theorem body_two (k : Nat) (o n : Nat) (fv : Value) (a : Option Addr) (l c : Nat) (hfv : fv = .slice a l c) (hk : k = 3 ∨ k = 4) (hn : n < 4611686018427387904) (ho : o < 4611686018427387904) (w : World) :
    Calls Tryz.prog 112 #[.agg #[.int .i64 k, .int .i64 o, .int .i64 n, fv]] w fun e w' => e = .returned (.string (bodyS k o n)) ∧ Fr (fun _ => False) w w' (fun _ => False) := by
  subst hfv
  have h1 := varint_any n hn
  have h2 := varint_any o ho
  have hs := varS_small n hn
  have hs2 := varS_small o ho
  have hb : bodyS k o n = one k ++ varS o ++ varS n := by unfold bodyS; rw [if_pos hk]
  have h1s : (one k).size = 1 := by unfold one; simp
  have hz : ¬ 9223372036854775807 < (one k).size + (varS o).size := by omega
  have hz2 : ¬ 9223372036854775807 < (one k).size + (varS o).size + (varS n).size := by omega
  have hwr : IntKind.u8.wrap (k : Int) = k := by rcases hk with rfl | rfl <;> rfl
  have hk2 : ((k : Int) == 2) = false := by rcases hk with rfl | rfl <;> rfl
  have hcv : ∀ W : World, ∀ g, W.cell? ⟨g, 0, none⟩ = some (.int .u8 k) → (convert 54 9 (.slice (some ⟨g, 0, none⟩) 1 1)).run Tryz.prog W = .ok (.string (one k)) W := fun W g h => by
    have := conv1 W g k h
    rw [Int.toNat_natCast] at this
    exact this
  have hc1 : ∀ m : Nat, m < 4611686018427387904 → ∀ W : World, Fr (fun _ => False) w W (fun _ => False) → Calls Tryz.prog 132 #[.int .i64 m] W fun e w' => e = .returned (.string (varS m)) ∧ Fr (fun _ => False) W w' (fun _ => False) ∧ Fr (fun _ => False) w w' (fun _ => False) := fun m hm W hW => (varint_any m hm W).mono fun _ _ ⟨he, hf⟩ => ⟨he, hf, hW.trans hf⟩
  have F1 := hide (((Fr.refl (fun _ => False) w).alloc (.cells #[.int .i64 k, .int .i64 o, .int .i64 n, .slice a l c] 49)).alloc (.cells #[.int .u8 k] 5))
  generalize one k = O at *
  generalize hvS : varS = vS at *
  have HB := hide hb
  have HN := hide hn
  have HO := hide ho
  have HC := hide hc1
  clear hb hs hs2 h1s h1 h2 hc1 hvS hn ho
  rcases hk with rfl | rfl
  · have hk3 : (((3 : Nat) : Int) == 3) = true := rfl
    go_enter Tryz.func112, Tryz.ntmps112
    go_wp2
    go_region_with (go_at_call 132; refine (unhide HC _ (by first | exact unhide HO | exact unhide HN) _ (by first | exact unhide F1 | exact (unhide F1).drew)).mono ?_; rintro e w1 ⟨rfl, f1, f2⟩; have ck := fun j q hj => f1.cell j q hj (fun h => h); have F1 := hide f2; clear f1 f2)
    all_goals
      go_wp2
      refine bodyPost_ret (v := .string (O ++ vS o ++ vS n)) (by simp [results, Tryz.results112, go_sem, Act.put]) rfl ?_
      rw [unhide HB]
      exact ⟨rfl, by first | exact unhide F1 | exact (unhide F1).drew⟩
  · have hk3 : (((4 : Nat) : Int) == 3) = false := rfl
    have hk4 : (((4 : Nat) : Int) == 4) = true := rfl
    go_enter Tryz.func112, Tryz.ntmps112
    go_wp2
    go_region_with (go_at_call 132; refine (unhide HC _ (by first | exact unhide HO | exact unhide HN) _ (by first | exact unhide F1 | exact (unhide F1).drew)).mono ?_; rintro e w1 ⟨rfl, f1, f2⟩; have ck := fun j q hj => f1.cell j q hj (fun h => h); have F1 := hide f2; clear f1 f2)
    all_goals
      go_wp2
      refine bodyPost_ret (v := .string (O ++ vS o ++ vS n)) (by simp [results, Tryz.results112, go_sem, Act.put]) rfl ?_
      rw [unhide HB]
      exact ⟨rfl, by first | exact unhide F1 | exact (unhide F1).drew⟩

theorem filesS_succ (l : List Int) (r : ByteArray) (k : Nat) (h : k < l.length) : filesS (l.take (k + 1)) r = filesS (l.take k) r ++ varS l[k].toNat := by
  unfold filesS
  rw [List.take_succ_eq_append_getElem h, List.foldl_append]
  rfl
theorem after_two {w w1 : World} {S' : Nat → Prop} {o1 o2 : Obj} (f1 : Fr (fun _ => False) ((w.alloc o1).alloc o2) w1 S') : w.heap.size < w1.heap.size := by
  have := f1.size
  simp at this
  omega
theorem box_three {w w1 : World} {S' : Nat → Prop} {o2 : Obj} {x0 x1 x2 x3 : Value} (f1 : Fr (fun _ => False) ((w.alloc (.cells #[x0, x1, x2, x3] 49)).alloc o2) w1 S') : w1.cell? ⟨w.heap.size, 3, none⟩ = some x3 := by
  have z3 : (w.alloc (.cells #[x0, x1, x2, x3] 49)).heap.size = w.heap.size + 1 := by simp
  have h1 : ((w.alloc (.cells #[x0, x1, x2, x3] 49)).alloc o2).heap[w.heap.size]? = some (.cells #[x0, x1, x2, x3] 49) := (Below.heap_alloc _ _ _ (by rw [z3]; omega)).trans (heap_alloc_new w _)
  rw [f1.cell _ _ (by simp; omega) (fun h => h)]
  exact cell_of_row _ _ 3 _ 49 (0, 0) h1
def BodyRel (l : List Int) (r0 : ByteArray) (w : World) (u i : Value) (wr : World) : Prop := ∃ (k : Nat), k ≤ l.length ∧ i = .int .i64 k ∧ u = .string (filesS (l.take k) r0) ∧ (filesS (l.take k) r0).size ≤ 100 + 64 * k ∧ Fr (fun _ => False) w wr (fun _ => False)

set_option maxHeartbeats 1000000 in
set_option maxRecDepth 20000 in
/-- Batches. -/
theorem body_files (o n : Int) (fv : Value) (l : List Int) {P : Nat → Prop} (w : World) (hP : ∀ q, P q → q < w.heap.size) (hl : IntsIn w fv l P) (h8 : l.length ≤ 8) (hz : ∀ z, z ∈ l → 0 ≤ z ∧ z < 8) :
    Calls Tryz.prog 112 #[.agg #[.int .i64 2, .int .i64 o, .int .i64 n, fv]] w fun e w' => e = .returned (.string (batchS l)) ∧ Fr (fun _ => False) w w' (fun _ => False) := by
  obtain ⟨a, c, rfl, hc⟩ := hl
  have hlen : l.length < 4611686018427387904 := by omega
  have hs2 := varS_small l.length hlen
  have h1s : (one 2).size = 1 := by unfold one; simp
  have hzz : ¬ 9223372036854775807 < (one 2).size + (varS l.length).size := by omega
  have hr0 : (one 2 ++ varS l.length).size ≤ 100 := by rw [ByteArray.size_append]; omega
  have hcv : ∀ W : World, ∀ g, W.cell? ⟨g, 0, none⟩ = some (.int .u8 2) → (convert 54 9 (.slice (some ⟨g, 0, none⟩) 1 1)).run Tryz.prog W = .ok (.string (one 2)) W := fun W g h => conv1 W g 2 h
  have hbs : batchS l = filesS l (one 2 ++ varS l.length) := rfl
  have h1 := varint_any l.length hlen
  have h2 : ∀ m : Nat, m < 8 → ∀ W, Calls Tryz.prog 132 #[.int .i64 m] W fun e w' => e = .returned (.string (varS m)) ∧ Fr (fun _ => False) W w' (fun _ => False) := fun m hm => varint_any m (by omega)
  have h3 : ∀ m : Nat, m < 8 → (varS m).size ≤ 64 := fun m hm => varS_small m (by omega)
  generalize one 2 = O at *
  generalize hvl : varS l.length = V at *
  have HC := hide hc
  have HP := hide hP
  have HZ := hide hz
  have H2 := hide h2
  have H3 := hide h3
  have HR0 := hide hr0
  have HBS := hide hbs
  clear hc hP hz h2 h3 hr0 hbs hs2 h1s hvl hlen
  go_enter Tryz.func112, Tryz.ntmps112
  go_wp2_with (go_at_call 132; refine (h1 _).mono ?_; rintro e w1 ⟨rfl, f1⟩; have C3 := hide (box_three f1); have F1 := hide ((((Fr.refl (fun _ => False) w).alloc _).alloc _).trans f1); have hsz := after_two f1; clear f1)
  go_loopw [3, 4] (fun u i wr => BodyRel l (O ++ V) w1 u i wr) (fun _ i _ => l.length - (intOf i).toNat)
  case atStart => exact ⟨0, Nat.zero_le _, rfl, rfl, unhide HR0, Fr.refl _ w1⟩
  case round =>
    obtain ⟨k, hk, rfl, rfl, hsize, hf⟩ := hrel
    have c3 := (hf.cell w.heap.size 3 hsz (fun h => h)).trans (unhide C3)
    by_cases hlt : k < l.length
    · rcases unhide HC with hz | ⟨q, off, rfl, hq, hcell⟩
      · rw [hz] at hlt; simp at hlt
      have cz := (((unhide F1).trans hf).cell q (off + k) (unhide HP q hq) (fun h => h)).trans (hcell k hlt)
      have hget : l.getD k 0 = l[k] := by simp [List.getD, hlt]
      rw [hget] at cz
      have HSU := hide (filesS_succ l (O ++ V) k hlt)
      obtain ⟨z0, z8⟩ := unhide HZ l[k] (List.getElem_mem hlt)
      have HF := hide hf
      clear hcell hget hf
      generalize l[k] = z at *
      obtain ⟨m, rfl⟩ : ∃ m : Nat, z = m := ⟨z.toNat, by omega⟩
      have hvs := unhide H3 m (by omega)
      have h7 := unhide H2 m (by omega)
      rw [Int.toNat_natCast] at HSU
      generalize varS m = U at *
      generalize filesS (l.take k) (O ++ V) = R at *
      have hzR : ¬ 9223372036854775807 < R.size + U.size := by omega
      have HSZ := hide hsize
      have HVS := hide hvs
      clear hsize hvs
      go_wp2_with (go_at_call 132; refine (h7 _).mono ?_; rintro e w2 ⟨rfl, f2⟩; have F2 := hide f2; clear f2)
      go_roundw
      case rel =>
        have h5 := unhide HSZ
        have h6 := unhide HVS
        refine ⟨k + 1, by omega, by go_num, by rw [unhide HSU], by rw [unhide HSU, ByteArray.size_append]; omega, (unhide HF).trans (unhide F2)⟩
      case measure => simp [intOf]; omega
    · have e : l.take k = l := List.take_of_length_le (by omega)
      rw [e] at hsize ⊢
      have hb := unhide HBS
      generalize filesS l (O ++ V) = R at *
      have HB := hide hb
      clear hb hsize e
      go_wp2
      go_ret
      rw [unhide HB]
      exact ⟨rfl, (unhide F1).trans hf⟩
end Go.Proofs.YtfmbebofllgmoaaGreatDoor
namespace Go.Proofs.YtfmbebofllgmoaaGreatDoor
open Go.RowKit
attribute [local go_sem ↓] Go.wp_at_zero Go.wp_at_succ

/-- The block of a slice's own row. -/
def own (v : Value) (k : Nat) : Prop := v.ownBlock = some k
/-- The cells of bytes. -/
def u8s (b : ByteArray) : List Value := b.data.toList.map fun x => Value.int .u8 (x.toNat : Int)
/-- A slice of bytes that is nobody else's. -/
def OwnB (w : World) (B : Nat) (v : Value) (b : ByteArray) : Prop :=
  w.ownsRow B 5 1 v b.size (u8s b) ∨ (∃ g, v = .slice (some ⟨g, 0, none⟩) b.size b.size ∧ B ≤ g ∧ g < w.heap.size ∧ ∀ j u, (u8s b)[j]? = some u → w.cell? ⟨g, 0 + j, none⟩ = some u)
theorem addr_add (g off j : Nat) : (⟨g, off, none⟩ : Addr).add j = ⟨g, off + j, none⟩ := by
  unfold Addr.add
  split
  · subst_vars; rfl
  · rfl
theorem OwnB.bump {w : World} {B : Nat} {v : Value} {b : ByteArray} (h : OwnB w B v b) : ∀ k, own v k → B ≤ k ∧ k < w.heap.size := by
  intro k hk
  rcases h with h | ⟨g, rfl, h1, h2, _⟩
  · exact World.ownsRow.lt h k hk
  · simp only [own, Value.ownBlock, Option.some.injEq] at hk
    subst hk
    exact ⟨h1, h2⟩
theorem OwnB.block {w w' : World} {B : Nat} {v : Value} {b : ByteArray} (h : OwnB w B v b) (hb : ∀ q, own v q → w'.heap[q]? = w.heap[q]?) : OwnB w' B v b := by
  rcases h with h | ⟨g, rfl, h1, h2, h3⟩
  · exact .inl (ownsRow_of_block h hb)
  · have e := hb g rfl
    refine .inr ⟨g, rfl, h1, ?_, fun j u hj => ?_⟩
    · rw [Array.getElem?_eq_getElem h2] at e
      exact (Array.getElem?_eq_some_iff.1 e).1
    · rw [World.cell?_of_block (w := w) (a := ⟨g, 0 + j, none⟩) e]
      exact h3 j u hj
theorem OwnB.alloc {w : World} {B : Nat} {v : Value} {b : ByteArray} (h : OwnB w B v b) (o : Obj) : OwnB (w.alloc o) B v b := h.block fun q hq => Below.heap_alloc _ _ _ (h.bump q hq).2
theorem OwnB.shape {w : World} {B : Nat} {v : Value} {b : ByteArray} (h : OwnB w B v b) : ∃ a n c, v = .slice a n c := by
  rcases h with h | ⟨g, rfl, _⟩
  · rcases h.2 with ⟨h1, _⟩ | ⟨g, cap, cur, hv, _⟩
    · exact ⟨_, _, _, h1⟩
    · exact ⟨_, _, _, hv⟩
  · exact ⟨_, _, _, rfl⟩
theorem OwnB.low {w : World} {B B' : Nat} {v : Value} {b : ByteArray} (h : OwnB w B v b) (hB : B' ≤ B) : OwnB w B' v b := by
  rcases h with h | ⟨g, h0, h1, h2⟩
  · exact .inl ⟨h.1, h.2.imp id fun ⟨g, cap, cur, e1, e2, r⟩ => ⟨g, cap, cur, e1, by omega, r⟩⟩
  · exact .inr ⟨g, h0, by omega, h2⟩
theorem u8s_length (b : ByteArray) : (u8s b).length = b.size := by simp [u8s]
theorem u8s_append (a b : ByteArray) : u8s (a ++ b) = u8s a ++ u8s b := by simp [u8s]
theorem info5 : ∃ i, Tryz.prog.info? 5 = some i ∧ i.zero = some (.int .u8 0) ∧ i.size = 1 ∧ i.bytes = 1 := by
  have h : (Tryz.prog.info? 5).map (fun i => (i.zero, i.size, i.bytes)) = some (some (.int .u8 0), 1, 1) := by kernel_rfl
  obtain ⟨i, hi, hb⟩ := Option.map_eq_some_iff.1 h
  injection hb with h1 h2
  injection h2 with h2 h3
  exact ⟨i, hi, h1, h2, h3⟩

/-- Bytes are put behind a slice's own. -/
theorem wpList_bytes {ops : Array Oper} {rest : List Oper} {o : Oper} {a : Act} {Q : Exit → Act → World → Prop} {w : World} {B : Nat} {v : Value} {b c : ByteArray} (hgd : o.guard = none) (sv xv : Operand)
    (ho : o.op = .call { callee := .builtin .append, args := #[sv, xv], argTypes := #[54, 54] }) {ad : Addr} {cap : Nat}
    (hs : a.eval sv = v) (hx : a.eval xv = .slice (some ad) c.size cap) (hrow : OwnB w B v b) (hc : ∀ j u, (u8s c)[j]? = some u → w.cell? (ad.add j) = some u) (h0 : 0 < c.size) (hn : b.size + c.size ≤ 1000000000) (hB : B ≤ w.heap.size)
    (h : ∀ v' w', OwnB w' B v' (b ++ c) → Fr (own v) w w' (own v') → wpList Tryz.prog ops Q rest (a.put o.dst v') w') : wpList Tryz.prog ops Q (o :: rest) a w := by
  obtain ⟨i, hi, hz, hs1, hby⟩ := info5
  have hm : b.size + c.size ≤ maxLen := by simp only [maxLen]; omega
  rcases hrow with hrow | ⟨g0, hg0, hgB, hgl, hgc⟩
  · refine wpList_append_lies _ hgd sv xv 54 ho B 5 i _ 1 1 Tryz.underlying54 hi hz hs1 hby rfl (by omega) v b.size _ hs hrow ad c.size cap (u8s c) hx (by rw [u8s_length]; omega) hc (by simp [u8s, Value.oneCell']) h0 hm (by omega) hB w.heap.size rfl ?_
    intro g cp w' h1 h2 h3 h4
    refine h _ w' ?_ ?_
    · refine .inl ?_
      rw [ByteArray.size_append, u8s_append]
      exact h1
    · refine ⟨h2.os, h2.tape, h2.output, h2.size, fun k hk hn => h2.block k hk (fun e => hn e.symm), ?_⟩
      intro k hk e
      simp only [own, Value.ownBlock, Option.some.injEq] at e
      subst e
      rcases h3 with h3 | h3
      · exact h3
      · omega
  · subst hg0
    refine wpList_plain hgd fun K hK => ?_
    obtain ⟨v', w', hr, h1, h2⟩ := run_append_arg_grows (P := Tryz.prog) w 54 o.type 5 i _ 1 1 Tryz.underlying54 hi hz hs1 hby rfl (by omega) ⟨g0, 0, none⟩ b.size b.size (u8s b) (by rw [u8s_length]; omega) (fun j u hj => by rw [addr_add]; exact hgc j u hj) ad c.size cap (u8s c) (by rw [u8s_length]; omega) hc (by omega) hm (by omega)
    unfold Oper.wp execOp
    simp only [ho, resolve, invoke, builtin, Sem.run_bind, Sem.run_pure, Result.andThen_ok, List.map_toArray, List.map_cons, List.map_nil, hs, hx, hr]
    refine hK _ _ (h v' w' (.inl ?_) ?_)
    · rw [ByteArray.size_append, u8s_append]
      exact ⟨h1.1, h1.2.imp id fun ⟨g, cap, cur, e1, e2, r⟩ => ⟨g, cap, cur, e1, by omega, r⟩⟩
    · refine ⟨h2.os, h2.tape, h2.output, h2.size, fun k hk _ => h2.block k hk (by simp), fun k hk e => ?_⟩
      have := (World.ownsRow.lt h1 k e).1
      omega

theorem push_eq (b : ByteArray) (x : UInt8) : b ++ ByteArray.empty.push x = b.push x := by
  apply ByteArray.ext
  simp
/-- One byte is put behind a slice's own. -/
theorem wpList_byte {ops : Array Oper} {rest : List Oper} {o : Oper} {a : Act} {Q : Exit → Act → World → Prop} {w : World} {B : Nat} {v : Value} {b : ByteArray} (hgd : o.guard = none) (sv xv : Operand)
    (ho : o.op = .call { callee := .builtin .append, args := #[sv, xv], argTypes := #[54, 54] }) {z : Int}
    (hs : a.eval sv = v) (hx : a.eval xv = .slice (some ⟨w.heap.size, 0, none⟩) 1 1) (hrow : OwnB w B v b) (h0 : 0 ≤ z) (h1 : z < 256) (hn : b.size ≤ 999999999) (hB : B ≤ w.heap.size)
    (h : ∀ v' w', OwnB w' B v' (b.push (UInt8.ofNat z.toNat)) → Fr (own v) w w' (own v') → wpList Tryz.prog ops Q rest (a.put o.dst v') w') : wpList Tryz.prog ops Q (o :: rest) a (w.alloc (.cells #[.int .u8 z] 5)) := by
  refine wpList_bytes (c := ByteArray.empty.push (UInt8.ofNat z.toNat)) hgd sv xv ho hs (by simpa using hx) (hrow.alloc _) ?_ (by simp) (by simp; omega) (by simp; omega) ?_
  · intro j u hu
    have hl : u8s (ByteArray.empty.push (UInt8.ofNat z.toNat)) = [.int .u8 z] := by simp [u8s]; omega
    rw [hl] at hu
    cases j with
    | zero =>
      simp at hu
      subst hu
      exact cell_of_row _ _ 0 _ 5 (0, 0) (heap_alloc_new _ _)
    | succ j => simp at hu
  · intro v' w' h2 h3
    refine h v' w' (by rwa [push_eq] at h2) ⟨h3.os, h3.tape, h3.output, Nat.le_trans (by simp) h3.size, fun k hk hn => (h3.same k (by simp; omega) hn).trans (Below.heap_alloc _ _ _ hk), fun k hk e => h3.old k (by simp; omega) e⟩


set_option maxHeartbeats 1000000 in
set_option maxRecDepth 20000 in
/-- The varint of n is put behind b. -/
theorem appendVarint_any {w : World} {B : Nat} {v : Value} {b : ByteArray} (h : OwnB w B v b) (n : Nat) (hn : n < 4611686018427387904) (hb : b.size + (varS n).size ≤ 1000000000) (hB : B ≤ w.heap.size) :
    Calls Tryz.prog 103 #[v, .int .i64 n] w fun e w' => ∃ v', e = .returned v' ∧ OwnB w' B v' (b ++ varS n) ∧ Fr (own v) w w' (own v') := by
  have H := hide h
  clear h
  go_enter Tryz.func103, Tryz.ntmps103
  go_wp2
  go_loopw [0, 1] (fun u i wr => ∃ (m : Nat) (c : ByteArray), i = .int .i64 m ∧ m < 4611686018427387904 ∧ c ++ varS m = b ++ varS n ∧ OwnB wr B u c ∧ Fr (own v) w wr (own u)) (fun _ i _ => (intOf i).toNat)
  case atStart => exact ⟨n, b, rfl, hn, rfl, unhide H, Fr.refl _ _⟩
  case round =>
    obtain ⟨m, c, rfl, hm, he, ho, hf⟩ := hrel
    have hcs : c.size + (varS m).size ≤ 1000000000 := by rw [← ByteArray.size_append, he, ByteArray.size_append]; exact hb
    have h1s := (varS_size m).1
    have HE := hide he
    have HO := hide ho
    have HF := hide hf
    have hBw : B ≤ wr.heap.size := Nat.le_trans hB hf.size
    clear he ho hf
    by_cases hlt : m < 128
    · have hv : varS m = ByteArray.empty.push (UInt8.ofNat m) := by rw [varS_eq, if_pos hlt]
      have hge : ¬ (128 : Int) ≤ m := by omega
      have hw2 : IntKind.u8.wrap (m : Int) = m := by simp [IntKind.wrap, IntKind.bits, IntKind.signed]; omega
      have HV := hide hv
      have HL := hide (show c.size ≤ 999999999 by omega)
      clear hv hcs h1s
      go_wp2_with (at_builtin; refine wpList_byte rfl (.tmp 16) (.tmp 19) rfl rfl rfl (unhide HO) (show (0 : Int) ≤ m by omega) (show (m : Int) < 256 by omega) (unhide HL) hBw ?_; intro v' w' o' f'; have O' := hide o'; have F' := hide f'; clear o' f')
      go_ret
      refine ⟨_, rfl, ?_, (unhide HF).trans (unhide F')⟩
      rw [← unhide HE, unhide HV, push_eq]
      exact unhide O'
    · have hv : varS m = ByteArray.empty.push (UInt8.ofNat (m % 128 + 128)) ++ varS (m / 128) := by rw [varS_eq, if_neg hlt]
      have hge : (128 : Int) ≤ m := by omega
      have hmod : ((m : Int)).tmod 128 = ((m % 128 : Nat) : Int) := by rw [Int.tmod_eq_emod_of_nonneg (by omega)]; omega
      have hdiv : ((m : Int)).tdiv 128 = ((m / 128 : Nat) : Int) := by rw [Int.tdiv_eq_ediv_of_nonneg (by omega)]; omega
      have hql : m / 128 < m := by omega
      have hr : m % 128 < 128 := by omega
      have HV := hide hv
      have HL := hide (show c.size ≤ 999999999 by omega)
      clear hv hcs h1s
      generalize hQ : m / 128 = q at *
      generalize m % 128 = r at *
      have hw1 : IntKind.i64.wrap ((r : Int) + 128) = (r : Int) + 128 := by rw [IntKind.wrap_i64]; omega
      have hw3 : IntKind.i64.wrap (q : Int) = q := by rw [IntKind.wrap_i64]; omega
      have hw2 : IntKind.u8.wrap ((r : Int) + 128) = (r : Int) + 128 := by simp [IntKind.wrap, IntKind.bits, IntKind.signed]; omega
      go_wp2_with (at_builtin; refine wpList_byte rfl (.tmp 7) (.tmp 12) rfl rfl rfl (unhide HO) (show (0 : Int) ≤ (r : Int) + 128 by omega) (show (r : Int) + 128 < 256 by omega) (unhide HL) hBw ?_; intro v' w' o' f'; have O' := hide o'; have F' := hide f'; clear o' f')
      go_roundw
      case rel =>
        refine ⟨q, _, rfl, by omega, ?_, unhide O', (unhide HF).trans (unhide F')⟩
        rw [← unhide HE, unhide HV, ← push_eq, ByteArray.append_assoc]
        rfl
      case measure => simp [intOf]; omega

/-- Bytes in memory that may be read. -/
def BytesAt (w : World) (v : Value) (b : ByteArray) : Prop := ∃ g off cap, v = .slice (some ⟨g, off, none⟩) b.size cap ∧ ∀ j u, (u8s b)[j]? = some u → w.cell? ⟨g, off + j, none⟩ = some u
theorem OwnB.bytes {w : World} {B : Nat} {v : Value} {b : ByteArray} (h : OwnB w B v b) (h0 : 0 < b.size) : ∃ g cap, v = .slice (some ⟨g, 0, none⟩) b.size cap ∧ B ≤ g ∧ (∀ j u, (u8s b)[j]? = some u → w.cell? ⟨g, 0 + j, none⟩ = some u) := by
  rcases h with h | ⟨g, hv, hB, _, hc⟩
  case inr => exact ⟨g, _, hv, hB, hc⟩
  rcases h.2 with ⟨_, h1⟩ | ⟨g, cap, cur, hv, hB, hg, h1, h2, h3, h4⟩
  · omega
  refine ⟨g, cap, hv, hB, fun j u hj => ?_⟩
  rw [Nat.zero_add, cell_of_row w g j cur 5 (0, 0) hg]
  rw [← h4, List.getElem?_take] at hj
  split at hj
  · rw [Array.getElem?_toList] at hj; exact hj
  · cases hj
theorem OwnB.at {w : World} {B : Nat} {v : Value} {b : ByteArray} (h : OwnB w B v b) (h0 : 0 < b.size) : BytesAt w v b := by
  obtain ⟨g, cap, hv, _, hc⟩ := h.bytes h0
  exact ⟨g, 0, cap, hv, hc⟩
theorem u8s_get (b : ByteArray) (j : Nat) (h : j < b.size) : (u8s b)[j]? = some (.int .u8 ((b.data.toList[j]'(by simpa using h)).toNat : Int)) := by
  have hj : j < b.data.toList.length := by simpa using h
  rw [u8s, List.getElem?_map, List.getElem?_eq_getElem hj]
  rfl

set_option maxHeartbeats 1000000 in
set_option maxRecDepth 20000 in
/-- The sum of bytes. -/
theorem psum_any {w : World} {v : Value} {b : ByteArray} (h : BytesAt w v b) (hs : b.size ≤ 1000000000) : Calls Tryz.prog 121 #[v] w fun e w' => e = .returned (.int .u32 (sumZ b.data.toList)) ∧ w' = w := by
  obtain ⟨g, off, cap, rfl, hc⟩ := h
  have HC := hide hc
  clear hc
  go_enter Tryz.func121, Tryz.ntmps121
  go_wp2
  go_loopw [3, 8] (fun h i wr => SumRel b w h i wr) (fun _ i _ => b.size - (intOf i).toNat)
  case atStart => exact ⟨rfl, 0, Nat.zero_le _, rfl, rfl⟩
  case round =>
    obtain ⟨rfl, k, hk, rfl, rfl⟩ := hrel
    by_cases hlt : k < b.size
    · have hz := sumZ_succ b.data.toList k (by rw [Array.length_toList]; exact hlt)
      have HZ := hide hz
      have hcell := unhide HC k _ (u8s_get b k hlt)
      clear hz
      generalize sumZ (b.data.toList.take k) = z at *
      go_wp2
      go_roundw
      case rel =>
        refine ⟨rfl, k + 1, hlt, by go_num, ?_⟩
        rw [unhide HZ]
        rfl
      case measure => simp [intOf]; omega
    · have e : b.data.toList.take k = b.data.toList := List.take_of_length_le (by rw [Array.length_toList]; exact Nat.le_of_not_lt hlt)
      rw [e]
      go_wp2
      go_ret
      exact ⟨rfl, rfl⟩

theorem b4_size (z : Int) : (b4 z).size = 4 := by unfold b4; simp
theorem b4_cells (z : Int) : u8s (b4 z) = [.int .u8 (z / 16777216 % 256), .int .u8 (z / 65536 % 256), .int .u8 (z / 256 % 256), .int .u8 (z % 256)] := by
  unfold u8s b4
  simp
  omega
theorem Fr.unalloc {S S' : Nat → Prop} {w w' : World} {o : Obj} (h : Fr S (w.alloc o) w' S') : Fr S w w' S' :=
  ⟨h.os, h.tape, h.output, Nat.le_trans (by simp) h.size, fun k hk hn => (h.same k (by simp; omega) hn).trans (Below.heap_alloc _ _ _ hk), fun k hk e => h.old k (by simp; omega) e⟩

set_option maxHeartbeats 1000000 in
set_option maxRecDepth 20000 in
/-- The sum of the body is put behind b. -/
theorem appendSum_any {w : World} {B : Nat} {v u : Value} {b c : ByteArray} (h : OwnB w B v b) (hu : BytesAt w u c) (hc : c.size ≤ 1000000000) (hb : b.size ≤ 900000000) (hB : B ≤ w.heap.size) :
    Calls Tryz.prog 100 #[v, u] w fun e w' => ∃ v', e = .returned v' ∧ OwnB w' B v' (b ++ sumS c) ∧ Fr (own v) w w' (own v') := by
  have h1 := psum_any hu hc
  have hS : sumS c = b4 (sumZ c.data.toList) := rfl
  generalize sumZ c.data.toList = z at *
  have HS := hide hS
  have H := hide (h.alloc (.cells #[.int .u8 (z / 16777216 % 256), .int .u8 (z / 65536 % 256), .int .u8 (z / 256 % 256), .int .u8 (z % 256)] 5))
  have HC := hide (b4_cells z)
  have H4 := hide (b4_size z)
  clear hS h hu
  go_enter Tryz.func100, Tryz.ntmps100
  go_wp2_with (first | (go_at_call 121; refine h1.mono ?_; rintro e w1 ⟨rfl, rfl⟩) | (at_builtin; refine wpList_bytes (c := b4 z) (ad := ⟨w1.heap.size, 0, none⟩) (cap := 4) rfl (.tmp 8) (.tmp 20) rfl rfl (by rw [unhide H4]; rfl) (unhide H) ?_ (by rw [unhide H4]; omega) (by rw [unhide H4]; omega) (by simp; omega) ?_))
  · rw [unhide HC]
    intro j u hu
    rw [addr_add, Nat.zero_add, cell_of_row _ _ j _ 5 (0, 0) (heap_alloc_new _ _)]
    simpa using hu
  · intro v' w' o' f'
    have O' := hide o'
    have F' := hide f'
    clear o' f'
    go_wp2
    go_ret
    refine ⟨_, rfl, ?_, (unhide F').unalloc⟩
    rw [unhide HS]
    exact unhide O'
end Go.Proofs.YtfmbebofllgmoaaGreatDoor
namespace Go.Proofs.YtfmbebofllgmoaaGreatDoor
open Go.RowKit

/-- What an element's type says. -/
structure Elem (t e size bytes : Nat) : Prop where
  u : Tryz.prog.underlying t = some (.slice e)
  i : ∃ i z, Tryz.prog.info? e = some i ∧ i.zero = some z ∧ i.size = size ∧ i.bytes = bytes ∧ z.cells.size = size
theorem elem_of (t e size bytes : Nat) (z : Value) (hu : Tryz.prog.underlying t = some (.slice e)) (h : (Tryz.prog.info? e).map (fun i => (i.zero, i.size, i.bytes)) = some (some z, size, bytes)) (hz : z.cells.size = size) : Elem t e size bytes := by
  obtain ⟨i, hi, hb⟩ := Option.map_eq_some_iff.1 h
  injection hb with h1 h2
  injection h2 with h2 h3
  exact ⟨hu, i, z, hi, h1, h2, h3, hz⟩
theorem elemI : Elem 26 3 1 8 := elem_of _ _ _ _ (.int .i64 0) Tryz.underlying26 (by kernel_rfl) rfl
theorem elemE : Elem 34 72 3 24 := elem_of _ _ _ _ (.agg #[.int .i64 0, .int .i64 0, .int .i64 0]) Tryz.underlying34 (by kernel_rfl) rfl

theorem grow_fr {w w' : World} {v : Value} {g n cap : Nat} (h2 : w.grownBy w' v.ownBlock) (h3 : v.ownBlock = some g ∨ g = w.heap.size) : Fr (own v) w w' (own (.slice (some ⟨g, 0, none⟩) n cap)) := by
  refine ⟨h2.os, h2.tape, h2.output, h2.size, fun k hk hn => h2.block k hk (fun e => hn e.symm), ?_⟩
  intro k hk e
  simp only [own, Value.ownBlock, Option.some.injEq] at e
  subst e
  rcases h3 with h3 | h3
  · exact h3
  · omega

theorem wpList_grow {ops : Array Oper} {rest : List Oper} {o : Oper} {a : Act} {Q : Exit → Act → World → Prop} {w : World} {B t e size bytes : Nat} (E : Elem t e size bytes) (hs0 : 0 < size) (hs1 : bytes ≤ 100) {v : Value} {n m : Nat} {xs news : List Value} (hgd : o.guard = none) (sv xv : Operand)
    (ho : o.op = .call { callee := .builtin .append, args := #[sv, xv], argTypes := #[t, t] }) {ad : Addr} {cap : Nat} (hs : a.eval sv = v) (hx : a.eval xv = .slice (some ad) m cap) (hrow : w.ownsRow B e size v n xs) (hl : news.length = m * size)
    (hc : ∀ j u, news[j]? = some u → w.cell? (ad.add j) = some u) (h1 : ∀ u ∈ news, u.oneCell' = true) (hm : 0 < m) (hn : n + m ≤ 1000000) (hB : B ≤ w.heap.size)
    (h : ∀ v' w', w'.ownsRow B e size v' (n + m) (xs ++ news) → Fr (own v) w w' (own v') → (∃ a c, v' = .slice a (n + m) c) → wpList Tryz.prog ops Q rest (a.put o.dst v') w') : wpList Tryz.prog ops Q (o :: rest) a w := by
  obtain ⟨i, z, hi, hz, hsz, hby, hzc⟩ := E.i
  have hmx : n + m ≤ maxLen := by simp only [maxLen]; omega
  have hbb : (n + m) * bytes ≤ 140737488355328 := Nat.le_trans (Nat.mul_le_mul hn hs1) (by omega)
  refine wpList_append_lies _ hgd sv xv t ho B e i z size bytes E.u hi hz hsz hby hzc hs0 v n xs hs hrow ad m cap news hx hl hc h1 hm hmx hbb hB w.heap.size rfl ?_
  intro g cp w' h1 h2 h3 h4
  exact h _ w' h1 (grow_fr h2 h3) ⟨_, _, rfl⟩
end Go.Proofs.YtfmbebofllgmoaaGreatDoor
namespace Go.Proofs.YtfmbebofllgmoaaGreatDoor
open Go.RowKit
attribute [local go_sem ↓] Go.wp_at_zero Go.wp_at_succ

def bs (s : ByteArray) : List Nat := s.data.toList.map UInt8.toNat
end Go.Proofs.YtfmbebofllgmoaaGreatDoor
namespace Go.Proofs.YtfmbebofllgmoaaGreatDoor
open Go.RowKit
attribute [local go_sem ↓] Go.wp_at_zero Go.wp_at_succ

theorem bs_len (s : ByteArray) : (bs s).length = s.size := by simp [bs]
def zs (l : List Nat) : List Int := l.map Int.ofNat
end Go.Proofs.YtfmbebofllgmoaaGreatDoor
namespace Go.Proofs.YtfmbebofllgmoaaGreatDoor
open Go.RowKit
attribute [local go_sem ↓] Go.wp_at_zero Go.wp_at_succ

def risL : Int → List Int → Bool
  | _, [] => true
  | last, f :: t => if f ≤ last ∨ 8 ≤ f then false else risL f t
end Go.Proofs.YtfmbebofllgmoaaGreatDoor
namespace Go.Proofs.YtfmbebofllgmoaaGreatDoor
open Go.RowKit
attribute [local go_sem ↓] Go.wp_at_zero Go.wp_at_succ

theorem ownI_slice {w : World} {B : Nat} {v : Value} {l : List Int} (h : OwnI w B v l) : ∃ a c, v = .slice a l.length c := by
  rcases h.2 with ⟨hv, h0⟩ | ⟨g, cap, cur, hv, _⟩
  · have h1 : l.length = 0 := h0
    exact ⟨none, 0, by rw [h1]; exact hv⟩
  · exact ⟨_, _, hv⟩
theorem zs_len (l : List Nat) : (zs l).length = l.length := by simp [zs]
end Go.Proofs.YtfmbebofllgmoaaGreatDoor
namespace Go.Proofs.YtfmbebofllgmoaaGreatDoor
open Go.RowKit
attribute [local go_sem ↓] Go.wp_at_zero Go.wp_at_succ

/-- In the midst of a body: the box of the input, the bytes so far. -/
structure BI (w : World) (x0 x1 x2 x3 : Value) (W : World) (v : Value) (b : ByteArray) : Prop where
  row : OwnB W w.heap.size v b
  fr : Fr (fun _ => False) w W (fun _ => False)
  new : ∀ k, own v k → w.heap.size < k
  box : W.heap[w.heap.size]? = some (.cells #[x0, x1, x2, x3] 49)
theorem Fr.fresh {S T T' : Nat → Prop} {w W w' : World} (h : Fr S w W S) (h' : Fr T W w' T') (hT : ∀ k, T k → w.heap.size ≤ k) : Fr S w w' S :=
  ⟨h'.os.trans h.os, h'.tape.trans h.tape, h'.output.trans h.output, Nat.le_trans h.size h'.size, fun k hk hn => (h'.same k (Nat.lt_of_lt_of_le hk h.size) (fun ht => by have := hT k ht; omega)).trans (h.same k hk hn), fun _ _ h => h⟩
theorem ownB_lit (w : World) (B : Nat) (z : Int) (h0 : 0 ≤ z) (h1 : z < 256) (hB : B ≤ w.heap.size) : OwnB (w.alloc (.cells #[.int .u8 z] 5)) B (.slice (some ⟨w.heap.size, 0, none⟩) 1 1) (ByteArray.empty.push (UInt8.ofNat z.toNat)) := by
  have hl : u8s (ByteArray.empty.push (UInt8.ofNat z.toNat)) = [.int .u8 z] := by simp [u8s]; omega
  refine .inl ?_
  rw [hl]
  exact ⟨by simp, .inr ⟨w.heap.size, 1, #[.int .u8 z], by simp, hB, heap_alloc_new _ _, by simp, by simp [maxLen], rfl, rfl⟩⟩
theorem BI.start (w : World) (x0 x1 x2 x3 : Value) (z : Int) (h0 : 0 ≤ z) (h1 : z < 256) : BI w x0 x1 x2 x3 ((w.alloc (.cells #[x0, x1, x2, x3] 49)).alloc (.cells #[.int .u8 z] 5)) (.slice (some ⟨w.heap.size + 1, 0, none⟩) 1 1) (ByteArray.empty.push (UInt8.ofNat z.toNat)) := by
  have hz : (w.alloc (.cells #[x0, x1, x2, x3] 49)).heap.size = w.heap.size + 1 := by simp
  refine ⟨?_, ((Fr.refl _ w).alloc _).alloc _, ?_, ?_⟩
  · have := ownB_lit (w.alloc (.cells #[x0, x1, x2, x3] 49)) w.heap.size z h0 h1 (by omega)
    rw [hz] at this
    exact this
  · intro k hk
    simp only [own, Value.ownBlock, Option.some.injEq] at hk
    omega
  · exact (Below.heap_alloc _ _ _ (by omega)).trans (heap_alloc_new w _)
theorem BI.cell {w : World} {x0 x1 x2 x3 : Value} {W : World} {v : Value} {b : ByteArray} (h : BI w x0 x1 x2 x3 W v b) (j : Nat) : W.cell? ⟨w.heap.size, j, none⟩ = (#[x0, x1, x2, x3] : Array Value)[j]? := cell_of_row W w.heap.size j _ 49 (0, 0) h.box
theorem BI.varint {w : World} {x0 x1 x2 x3 : Value} {W : World} {v : Value} {b : ByteArray} (h : BI w x0 x1 x2 x3 W v b) (m : Nat) (hm : m < 4611686018427387904) (hb : b.size ≤ 100000) :
    Calls Tryz.prog 103 #[v, .int .i64 m] W fun e w' => ∃ v', e = .returned v' ∧ BI w x0 x1 x2 x3 w' v' (b ++ varS m) := by
  have hsm := varS_small m hm
  refine (appendVarint_any h.row m hm (by omega) h.fr.size).mono ?_
  rintro e w' ⟨v', rfl, ho, hf⟩
  refine ⟨v', rfl, ho, h.fr.fresh hf (fun k hk => Nat.le_of_lt (h.new k hk)), ?_, ?_⟩
  · intro k hk
    by_cases hlt : k < W.heap.size
    · exact h.new k (hf.old k hlt hk)
    · have : w.heap.size < W.heap.size := (Array.getElem?_eq_some_iff.1 h.box).1
      omega
  · exact (hf.same _ (Array.getElem?_eq_some_iff.1 h.box).1 (fun hk => by have := h.new _ hk; omega)).trans h.box

set_option maxHeartbeats 1000000 in
set_option maxRecDepth 20000 in
/-- Clocks and ends. -/
theorem pbody_one (k : Nat) (o n : Nat) (fv : Value) (a : Option Addr) (l c : Nat) (hfv : fv = .slice a l c) (hk : k = 1 ∨ k = 5) (hn : n < 4611686018427387904) (w : World) :
    Calls Tryz.prog 102 #[.agg #[.int .i64 k, .int .i64 o, .int .i64 n, fv]] w fun e w' => ∃ v', e = .returned v' ∧ OwnB w' w.heap.size v' (bodyS k o n) ∧ Fr (fun _ => False) w w' (fun _ => False) := by
  subst hfv
  have hb : bodyS k o n = one k ++ varS n := by unfold bodyS; rw [if_neg (by omega)]
  have hwr : IntKind.u8.wrap (k : Int) = k := by rcases hk with rfl | rfl <;> rfl
  have hk2 : ((k : Int) == 2) = false := by rcases hk with rfl | rfl <;> rfl
  have hk3 : ((k : Int) == 3) = false := by rcases hk with rfl | rfl <;> rfl
  have hk4 : ((k : Int) == 4) = false := by rcases hk with rfl | rfl <;> rfl
  have h1 := (BI.start w (.int .i64 k) (.int .i64 o) (.int .i64 n) (.slice a l c) k (by omega) (by omega)).varint n hn (by simp)
  have he : ByteArray.empty.push (UInt8.ofNat ((k : Int)).toNat) = one k := by rw [Int.toNat_natCast]; rfl
  rw [he] at h1
  rw [hb]
  generalize one k ++ varS n = R at *
  clear hb he hk hn
  go_enter Tryz.func102, Tryz.ntmps102
  go_wp2_with (go_at_call 103; refine h1.mono ?_; rintro e w1 ⟨v1, rfl, b1⟩; have B1 := hide b1; clear b1)
  go_ret
  exact ⟨_, rfl, (unhide B1).row, (unhide B1).fr⟩

set_option maxHeartbeats 1000000 in
set_option maxRecDepth 20000 in
/-- Picks and lots. -/
theorem pbody_two (k : Nat) (o n : Nat) (fv : Value) (a : Option Addr) (l c : Nat) (hfv : fv = .slice a l c) (hk : k = 3 ∨ k = 4) (hn : n < 4611686018427387904) (ho : o < 4611686018427387904) (w : World) :
    Calls Tryz.prog 102 #[.agg #[.int .i64 k, .int .i64 o, .int .i64 n, fv]] w fun e w' => ∃ v', e = .returned v' ∧ OwnB w' w.heap.size v' (bodyS k o n) ∧ Fr (fun _ => False) w w' (fun _ => False) := by
  subst hfv
  have hb : bodyS k o n = one k ++ varS o ++ varS n := by unfold bodyS; rw [if_pos hk]
  have hwr : IntKind.u8.wrap (k : Int) = k := by rcases hk with rfl | rfl <;> rfl
  have hk2 : ((k : Int) == 2) = false := by rcases hk with rfl | rfl <;> rfl
  have hs1 : (one k).size = 1 := by unfold one; simp
  have hso := varS_small o ho
  have hbi := BI.start w (.int .i64 k) (.int .i64 o) (.int .i64 n) (.slice a l c) k (by omega) (by omega)
  have he : ByteArray.empty.push (UInt8.ofNat ((k : Int)).toNat) = one k := by rw [Int.toNat_natCast]; rfl
  rw [he] at hbi
  rw [hb]
  have HC : Hid (∀ W v b m, BI w (.int .i64 k) (.int .i64 o) (.int .i64 n) (.slice a l c) W v b → m < 4611686018427387904 → b.size ≤ 100000 → Calls Tryz.prog 103 #[v, .int .i64 (m : Nat)] W fun e w' => ∃ v', e = .returned v' ∧ BI w (.int .i64 k) (.int .i64 o) (.int .i64 n) (.slice a l c) w' v' (b ++ varS m)) := hide (fun W v b m h h1 h2 => h.varint m h1 h2)
  have HO := hide ho
  have HN := hide hn
  have Z1 := hide (show (one k).size ≤ 100000 by omega)
  have Z2 := hide (show (one k ++ varS o).size ≤ 100000 by rw [ByteArray.size_append]; omega)
  have B0 := hide hbi
  have c0 := hbi.cell
  clear hb he hn ho hbi hs1 hso c0
  generalize one k = O at *
  rcases hk with rfl | rfl
  · have hk3 : (((3 : Nat) : Int) == 3) = true := rfl
    go_enter Tryz.func102, Tryz.ntmps102
    go_wp2_with (go_at_call 103; refine (unhide HC _ _ _ _ (unhide B0) (by first | exact unhide HO | exact unhide HN) (by first | exact unhide Z1 | exact unhide Z2)).mono ?_; rintro e w1 ⟨v1, rfl, b1⟩; have ck := b1.cell; have B0 := hide b1; clear b1)
    go_ret
    exact ⟨_, rfl, (unhide B0).row, (unhide B0).fr⟩
  · have hk3 : (((4 : Nat) : Int) == 3) = false := rfl
    have hk4 : (((4 : Nat) : Int) == 4) = true := rfl
    go_enter Tryz.func102, Tryz.ntmps102
    go_wp2_with (go_at_call 103; refine (unhide HC _ _ _ _ (unhide B0) (by first | exact unhide HO | exact unhide HN) (by first | exact unhide Z1 | exact unhide Z2)).mono ?_; rintro e w1 ⟨v1, rfl, b1⟩; have ck := b1.cell; have B0 := hide b1; clear b1)
    go_ret
    exact ⟨_, rfl, (unhide B0).row, (unhide B0).fr⟩

def PBodyRel (l : List Int) (r0 : ByteArray) (w : World) (x0 x1 x2 x3 : Value) (u i : Value) (wr : World) : Prop :=
  ∃ (k : Nat), k ≤ l.length ∧ i = .int .i64 k ∧ BI w x0 x1 x2 x3 wr u (filesS (l.take k) r0) ∧ (filesS (l.take k) r0).size ≤ 100 + 64 * k

set_option maxHeartbeats 1000000 in
set_option maxRecDepth 20000 in
/-- Batches. -/
theorem pbody_files (o n : Int) (fv : Value) (l : List Int) {P : Nat → Prop} (w : World) (hP : ∀ q, P q → q < w.heap.size) (hl : IntsIn w fv l P) (h8 : l.length ≤ 8) (hz : ∀ z, z ∈ l → 0 ≤ z ∧ z < 8) :
    Calls Tryz.prog 102 #[.agg #[.int .i64 2, .int .i64 o, .int .i64 n, fv]] w fun e w' => ∃ v', e = .returned v' ∧ OwnB w' w.heap.size v' (batchS l) ∧ Fr (fun _ => False) w w' (fun _ => False) := by
  obtain ⟨a, c, rfl, hc⟩ := hl
  have hlen : l.length < 4611686018427387904 := by omega
  have hs2 := varS_small l.length hlen
  have h1s : (one 2).size = 1 := by unfold one; simp
  have hr0 : (one 2 ++ varS l.length).size ≤ 100 := by rw [ByteArray.size_append]; omega
  have hbs : batchS l = filesS l (one 2 ++ varS l.length) := rfl
  have hbi := BI.start w (.int .i64 2) (.int .i64 o) (.int .i64 n) (.slice a l.length c) 2 (by omega) (by omega)
  have he : ByteArray.empty.push (UInt8.ofNat ((2 : Int)).toNat) = one 2 := rfl
  rw [he] at hbi
  have h1 := hbi.varint l.length hlen (by omega)
  have h2 : ∀ (W : World) (u : Value) (b : ByteArray) (m : Nat), BI w (.int .i64 2) (.int .i64 o) (.int .i64 n) (.slice a l.length c) W u b → m < 8 → b.size ≤ 100000 → Calls Tryz.prog 103 #[u, .int .i64 m] W fun e w' => ∃ v', e = .returned v' ∧ BI w (.int .i64 2) (.int .i64 o) (.int .i64 n) (.slice a l.length c) w' v' (b ++ varS m) := fun W u b m h hm hb => h.varint m (by omega) hb
  have h3 : ∀ m : Nat, m < 8 → (varS m).size ≤ 64 := fun m hm => varS_small m (by omega)
  generalize one 2 = O at *
  generalize hvl : varS l.length = V at *
  have HC := hide hc
  have HP := hide hP
  have HZ := hide hz
  have H2 := hide h2
  have H3 := hide h3
  have HR0 := hide hr0
  have HBS := hide hbs
  clear hc hP hz h2 h3 hr0 hbs hs2 h1s hvl hlen hbi he
  go_enter Tryz.func102, Tryz.ntmps102
  go_wp2_with (go_at_call 103; refine h1.mono ?_; rintro e w1 ⟨v1, rfl, b1⟩; have ck := b1.cell; have B1 := hide b1; clear b1)
  go_loopw [3, 26] (fun u i wr => PBodyRel l (O ++ V) w (.int .i64 2) (.int .i64 o) (.int .i64 n) (.slice a l.length c) u i wr) (fun _ i _ => l.length - (intOf i).toNat)
  case atStart => exact ⟨0, Nat.zero_le _, rfl, unhide B1, unhide HR0⟩
  case round =>
    obtain ⟨k, hk, rfl, hbi, hsize⟩ := hrel
    by_cases hlt : k < l.length
    · rcases unhide HC with hz | ⟨q, off, rfl, hq, hcell⟩
      · rw [hz] at hlt; simp at hlt
      have cz := (hbi.fr.cell q (off + k) (unhide HP q hq) (fun h => h)).trans (hcell k hlt)
      have hget : l.getD k 0 = l[k] := by simp [List.getD, hlt]
      rw [hget] at cz
      have HSU := hide (filesS_succ l (O ++ V) k hlt)
      obtain ⟨z0, z8⟩ := unhide HZ l[k] (List.getElem_mem hlt)
      clear hcell hget
      generalize l[k] = z at *
      obtain ⟨m, rfl⟩ : ∃ m : Nat, z = m := ⟨z.toNat, by omega⟩
      have hvs := unhide H3 m (by omega)
      have h7 := unhide H2 _ _ _ m hbi (by omega) (by omega)
      rw [Int.toNat_natCast] at HSU
      clear hbi
      generalize varS m = U at *
      generalize filesS (l.take k) (O ++ V) = R at *
      have HSZ := hide hsize
      have HVS := hide hvs
      clear hsize hvs
      go_wp2_with (go_at_call 103; refine h7.mono ?_; rintro e w2 ⟨v2, rfl, b2⟩; have B2 := hide b2; clear b2)
      go_roundw
      case rel =>
        have h5 := unhide HSZ
        have h6 := unhide HVS
        refine ⟨k + 1, by omega, by go_num, by rw [unhide HSU]; exact unhide B2, by rw [unhide HSU, ByteArray.size_append]; omega⟩
      case measure => simp [intOf]; omega
    · have e : l.take k = l := List.take_of_length_le (by omega)
      rw [e] at hbi
      clear hsize
      generalize filesS l (O ++ V) = R at *
      have B2 := hide hbi
      clear hbi e
      go_wp2
      go_ret
      exact ⟨_, rfl, by rw [unhide HBS]; exact (unhide B2).row, (unhide B2).fr⟩
end Go.Proofs.YtfmbebofllgmoaaGreatDoor
namespace Go.Proofs.YtfmbebofllgmoaaGreatDoor
open Go.Conc Go.RowKit

/-- From here (what is left to do, the temporaries, the world) the frame comes to its return, and R holds. -/
def Rn (P : Program) (b : Frame) (R : Ending → World → Prop) (todo : List Item) (a : Act) (w : World) : Prop :=
  ∀ cs, ∃ v w' fr, R (.returned v) w' ∧ Steps P (lone (b.at a todo) cs w) (lone fr cs w') ∧ fr.fn = b.fn ∧ fr.leaving P w' (.returned v)

section
variable {P : Program} {b : Frame} {R : Ending → World → Prop} {k : List Item} {a : Act} {w : World}

theorem Rn.step {todo todo' : List Item} {a' : Act} {w' : World} (h : ∀ cs, Go.step P (lone (b.at a todo) cs w) = .next (lone (b.at a' todo') cs w')) (h' : Rn P b R todo' a' w') : Rn P b R todo a w :=
  fun cs => let ⟨v, w₂, fr, hr, hs, hf, hl⟩ := h' cs; ⟨v, w₂, fr, hr, Steps.head (h cs) hs, hf, hl⟩

theorem Rn.seq {x y : Code} (h : Rn P b R (.code x :: .code y :: k) a w) : Rn P b R (.code (.seq x y) :: k) a w := .step (fun _ => step_seq) h
theorem Rn.block {id : Nat} {c : Code} (h : Rn P b R (.code c :: .inBlock id :: k) a w) : Rn P b R (.code (.block id c) :: k) a w := .step (fun _ => step_block) h
theorem Rn.inBlock {id : Nat} (h : Rn P b R k a w) : Rn P b R (.inBlock id :: k) a w := .step (fun _ => step_inBlock) h
theorem Rn.loop {c : Code} (h : Rn P b R (.code c :: .inLoop c :: k) a w) : Rn P b R (.code (.loop c) :: k) a w := .step (fun _ => step_loop) h
theorem Rn.inLoop {c : Code} (h : Rn P b R (.code c :: .inLoop c :: k) a w) : Rn P b R (.inLoop c :: k) a w := .step (fun _ => step_inLoop) h
theorem Rn.cond {c : Operand} {x y : Code} {t : Bool} (hc : a.eval c = .bool t) (h : Rn P b R (.code (if t then x else y) :: k) a w) : Rn P b R (.code (.cond c x y) :: k) a w := .step (fun _ => step_cond hc) h
theorem Rn.exit {id : Nat} {k' : List Item} (hk : exitTo id k = some k') (h : Rn P b R k' a w) : Rn P b R (.code (.exit id) :: k) a w := .step (fun _ => step_exit hk) h
theorem Rn.region {id : Nat} {ops : Array Oper} (h : Rn P b R (.inRegion ops (List.range ops.size) :: k) a w) : Rn P b R (.code (.region id ops false) :: k) a w := .step (fun _ => step_region) h
theorem Rn.regionEnd {ops : Array Oper} (h : Rn P b R k a w) : Rn P b R (.inRegion ops [] :: k) a w := .step (fun _ => step_region_end) h

/-- A return. -/
theorem Rn.ret {fn : Func} {v : Value} (hk : b.kind = .normal) (hd : a.defers = []) (hf : P.funcs[b.fn]? = some fn) (hv : (results fn a.tmps).run P w = .ok v w) (h : R (.returned v) w) : Rn P b R (.code .ret :: k) a w :=
  fun _ => ⟨v, w, _, h, .one step_ret, rfl, rfl, hd, hk, fn, hf, hv⟩

/-- A piece that the kit's walk takes whole. -/
theorem Rn.code {c : Code} {Q : Act → World → Prop} {ret : Act → World → Prop} {ex : Nat → Act → World → Prop}
    (h : c.wp P (fun e a w => match e with | .normal => Q a w | .ret => ret a w | .exit id => ex id a w | _ => False) a w)
    (hn : ∀ a' w', Q a' w' → Rn P b R k a' w')
    (hr : ∀ a' w', ret a' w' → a'.defers = [] ∧ b.kind = .normal ∧ ∃ fn v, P.funcs[b.fn]? = some fn ∧ (results fn a'.tmps).run P w' = .ok v w' ∧ R (.returned v) w')
    (he : ∀ id a' w', ex id a' w' → ∃ k', exitTo id k = some k' ∧ Rn P b R k' a' w') : Rn P b R (.code c :: k) a w := by
  intro cs
  obtain ⟨e, a', w', hq, harr⟩ := h b k cs
  cases e with
  | normal =>
    obtain ⟨v, w₂, fr, hR, hs, hf, hl⟩ := hn _ _ hq cs
    exact ⟨v, w₂, fr, hR, Steps.trans harr hs, hf, hl⟩
  | ret =>
    obtain ⟨hd, hk, fn, v, hf, hv, hR⟩ := hr _ _ hq
    obtain ⟨todo, hs⟩ := harr
    exact ⟨v, w', _, hR, hs, rfl, rfl, hd, hk, fn, hf, hv⟩
  | exit id =>
    obtain ⟨k', hk', h'⟩ := he _ _ _ hq
    obtain ⟨v, w₂, fr, hR, hs, hf, hl⟩ := h' cs
    exact ⟨v, w₂, fr, hR, Steps.trans (harr k' hk') hs, hf, hl⟩
  | goto l => exact hq.elim
  | panic c => exact hq.elim
  | outgrown => exact hq.elim

/-- One operation that yields a value. -/
theorem Rn.op {ops : Array Oper} {i : Nat} {rest : List Nat} {o : Oper} {v : Value} {w' : World} (ho : ops[i]? = some o) (hw : Region.wanted o (yielded ops a.tmps) = true)
    (hr : (execOp a.eval o).run P w = .ok (.value v) w') (h : Rn P b R (.inRegion ops rest :: k) (a.put o.dst v) w') : Rn P b R (.inRegion ops (i :: rest) :: k) a w :=
  .step (fun cs => by
    have hg := stepG_op (P := P) (b := b) (k := k) (cs := cs) (w := w) (rest := rest) ho hw
    have hfin : (b.at a (.inRegion ops (i :: rest) :: k)).finish v = b.at (a.put o.dst v) (.inRegion ops rest :: k) := by rw [Frame.finish_at, ho]; rfl
    refine step_lone_go ?_
    rw [hg, ← hfin]; simp [stepG.apply, hr]) h

/-- A send into a channel with room. -/
theorem Rn.send {ops : Array Oper} {i : Nat} {rest : List Nat} {o : Oper} {c cap s r : Nat} {buf : Array Value} {tm : Bool} {v z : Value} (hk : b.kind ≠ .early) (ho : ops[i]? = some o) (hw : Region.wanted o (yielded ops a.tmps) = true)
    (hr : (execOp a.eval o).run P w = .ok (.comm #[scase c v z] true .send) w) (hc : w.heap[c]? = some (.chan cap buf false s r tm)) (hroom : buf.size < cap)
    (h : Rn P b R (.inRegion ops rest :: k) (a.put o.dst undef) (w.setChan c cap (buf.push v) false (s + 1) r tm)) : Rn P b R (.inRegion ops (i :: rest) :: k) a w :=
  .step (fun cs => by
    have hfin : (b.at a (.inRegion ops (i :: rest) :: k)).finish undef = b.at (a.put o.dst undef) (.inRegion ops rest :: k) := by rw [Frame.finish_at, ho]; rfl
    rw [lone_eq_solo, lone_eq_solo, ← hfin]
    exact step_lone_send_room (stepG_comm ho hw hk hr) hc hroom) h

/-- A receive from a channel that holds something. -/
theorem Rn.recv {ops : Array Oper} {i : Nat} {rest : List Nat} {o : Oper} {c cap s r : Nat} {buf : Array Value} {closed tm : Bool} {z : Value} (ok : Bool) (hk : b.kind ≠ .early) (ho : ops[i]? = some o) (hw : Region.wanted o (yielded ops a.tmps) = true)
    (hr : (execOp a.eval o).run P w = .ok (.comm #[rcase c z] true (.recv ok)) w) (hc : w.heap[c]? = some (.chan cap buf closed s r tm)) (hsome : 0 < buf.size)
    (h : Rn P b R (.inRegion ops rest :: k) (a.put o.dst (got ok (buf.getD 0 undef) true)) (w.setChan c cap (buf.extract 1 buf.size) closed s (r + 1) tm)) : Rn P b R (.inRegion ops (i :: rest) :: k) a w :=
  .step (fun cs => by
    have hfin : (b.at a (.inRegion ops (i :: rest) :: k)).finish (got ok (buf.getD 0 undef) true) = b.at (a.put o.dst (got ok (buf.getD 0 undef) true)) (.inRegion ops rest :: k) := by rw [Frame.finish_at, ho]; rfl
    rw [lone_eq_solo, lone_eq_solo, ← hfin]
    exact step_lone_recv_buf ok (stepG_comm ho hw hk hr) hc hsome) h

/-- A receive from a closed channel that holds nothing. -/
theorem Rn.shut {ops : Array Oper} {i : Nat} {rest : List Nat} {o : Oper} {c cap s r : Nat} {tm : Bool} {z : Value} (ok : Bool) (hk : b.kind ≠ .early) (ho : ops[i]? = some o) (hw : Region.wanted o (yielded ops a.tmps) = true)
    (hr : (execOp a.eval o).run P w = .ok (.comm #[rcase c z] true (.recv ok)) w) (hc : w.heap[c]? = some (.chan cap #[] true s r tm))
    (h : Rn P b R (.inRegion ops rest :: k) (a.put o.dst (got ok z false)) w) : Rn P b R (.inRegion ops (i :: rest) :: k) a w :=
  .step (fun cs => by
    have hfin : (b.at a (.inRegion ops (i :: rest) :: k)).finish (got ok z false) = b.at (a.put o.dst (got ok z false)) (.inRegion ops rest :: k) := by rw [Frame.finish_at, ho]; rfl
    rw [lone_eq_solo, lone_eq_solo, ← hfin]
    exact step_lone_recv_shut ok (stepG_comm ho hw hk hr) hc) h
end

/-- From the walk of its frame the contract of a function. -/
theorem calls_of_rn {P : Program} {f : FuncId} {fn : Func} {c : Code} {args : Array Value} {w : World} {R : Ending → World → Prop} (hf : P.funcs[f]? = some fn) (hb : fn.body = some c)
    (h : Rn P { (default : Frame) with fn := f, kind := .normal } R [.code c] { tmps := args ++ Array.replicate (fn.ntmps - args.size) undef, defers := [] } w) : Calls P f args w R := by
  intro cs
  have henter : Frame.enter P f args .normal = ({ (default : Frame) with fn := f, kind := .normal } : Frame).at { tmps := args ++ Array.replicate (fn.ntmps - args.size) undef, defers := [] } [.code c] := by
    simp [Frame.enter, Frame.at, hf, hb]
  obtain ⟨v, w', fr, hR, hs, hfn, hl⟩ := h cs
  exact ⟨.returned v, w', fr, hR, by rw [henter]; exact hs, hfn, hl⟩
end Go.Proofs.YtfmbebofllgmoaaGreatDoor
namespace Go.Proofs.YtfmbebofllgmoaaGreatDoor
open Go.RowKit Go.Conc

def exNo (K : Act → World → Prop) : Exit → Act → World → Prop
  | .normal, a, w => K a w
  | _, _, _ => False
theorem Rn.go {P : Program} {b : Frame} {R : Ending → World → Prop} {k : List Item} {a : Act} {w : World} {c : Code} (h : c.wp P (exNo (Rn P b R k)) a w) : Rn P b R (.code c :: k) a w :=
  Rn.code (Q := Rn P b R k) (ret := fun _ _ => False) (ex := fun _ _ _ => False) (wp_mono h (fun e a w h => by cases e <;> exact h)) (fun _ _ h => h) (fun _ _ h => h.elim) (fun _ _ _ h => h.elim)

theorem mkI (n : Nat) (hn : n ≤ 5000000) (w : World) : (Instr.makeChan 171 (.int .i64 n)).run Tryz.prog w = .ok (.chan (some w.heap.size)) (w.alloc (.chan n #[] false 0 0 false)) := by
  have h : (Tryz.prog.info? 3).map (·.bytes) = some 8 := by kernel_rfl
  obtain ⟨i, hi, hb⟩ := Option.map_eq_some_iff.1 h
  exact run_makeChan (P := Tryz.prog) (w := w) Tryz.underlying171 hi .i64 n (by omega) (by rw [hb]; omega)

theorem enter_tmps (v : Value) (n m : Nat) (l : List Value) (h : n - 1 = m) (hl : l = v :: List.replicate m undef) : (#[v] ++ Array.replicate (n - (#[v] : Array Value).size) undef) = l.toArray := by
  subst hl
  simp [h]

theorem exNo_normal {K : Act → World → Prop} {a : Act} {w : World} (h : K a w) : exNo K .normal a w := h
theorem push_set_last (h : Array Obj) (o o' : Obj) : (h.push o).setIfInBounds h.size o' = h.push o' := by
  apply Array.ext_getElem?
  intro i
  by_cases e : i = h.size
  · subst e; simp
  · simp [Array.getElem?_push, e, Ne.symm e]
theorem setChan_alloc (w : World) (o : Obj) (cap : Nat) (buf : Array Value) (cl : Bool) (s r : Nat) (tm : Bool) : (w.alloc o).setChan w.heap.size cap buf cl s r tm = w.alloc (.chan cap buf cl s r tm) :=
  congrArg (fun h => ({ w with heap := h } : World)) (push_set_last w.heap o _)
theorem close_alloc (w : World) (o o' : Obj) : ({ (w.alloc o) with heap := (w.alloc o).heap.setIfInBounds w.heap.size o' } : World) = w.alloc o' :=
  congrArg (fun h => ({ w with heap := h } : World)) (push_set_last w.heap o _)
theorem Rn.iter {P : Program} {b : Frame} {R : Ending → World → Prop} {k : List Item} {X : Code} (I : Nat → Act → World → Prop)
    (h : ∀ m a w, I m a w → (∀ m' a' w', m' < m → I m' a' w' → Rn P b R (.inLoop X :: k) a' w') → Rn P b R (.code X :: .inLoop X :: k) a w) (m : Nat) : ∀ a w, I m a w → Rn P b R (.code X :: .inLoop X :: k) a w := by
  induction m using Nat.strongRecOn with
  | _ m ih => exact fun a w hI => h m a w hI (fun m' a' w' hm hI' => Rn.inLoop (ih m' hm a' w' hI'))

theorem Rn.region' {P : Program} {b : Frame} {R : Ending → World → Prop} {k : List Item} {a : Act} {w : World} {id : Nat} {ops : Array Oper} (l : List Nat) (hl : List.range ops.size = l) (h : Rn P b R (.inRegion ops l :: k) a w) : Rn P b R (.code (.region id ops false) :: k) a w := Rn.region (hl ▸ h)
/-- The channel's block when i have been sent. -/
def fillW (w : World) (n : Nat) (ev : Nat → Value) (i : Nat) : World := w.alloc (.chan n ((List.range i).map ev).toArray false i 0 false)

theorem mkL (n : Nat) (hn : n ≤ 5000000) (w : World) : (Instr.makeChan 172 (.int .i64 n)).run Tryz.prog w = .ok (.chan (some w.heap.size)) (w.alloc (.chan n #[] false 0 0 false)) := by
  have h : (Tryz.prog.info? 26).map (·.bytes) = some 24 := by kernel_rfl
  obtain ⟨i, hi, hb⟩ := Option.map_eq_some_iff.1 h
  exact run_makeChan (P := Tryz.prog) (w := w) Tryz.underlying172 hi .i64 n (by omega) (by rw [hb]; omega)

set_option maxRecDepth 20000 in
theorem filled_any {w : World} (a0 : Option Addr) (n c : Nat) (ev : Nat → Value) (hn : n ≤ 5000000) (hc : ∀ i, i < n → ∃ q off, a0 = some ⟨q, off, none⟩ ∧ q < w.heap.size ∧ w.cell? ⟨q, off + i, none⟩ = some (ev i)) :
    Calls Tryz.prog 62 #[.slice a0 n c] w fun e w' => e = .returned (.chan (some w.heap.size)) ∧ w' = w.alloc (.chan n ((List.range n).map ev).toArray true n 0 false) := by
  refine calls_of_rn Tryz.func62 rfl ?_
  rw [Tryz.ntmps62, enter_tmps (.slice a0 n c) 20 19 [.slice a0 n c, undef, undef, undef, undef, undef, undef, undef, undef, undef, undef, undef, undef, undef, undef, undef, undef, undef, undef, undef] rfl rfl]
  have hmk := mkI n hn w
  refine Rn.seq (Rn.go ?_)
  go_wp2
  refine exNo_normal (Rn.seq (Rn.go ?_))
  go_wp2
  refine exNo_normal (Rn.seq (Rn.seq (Rn.go ?_)))
  go_wp2
  refine exNo_normal (Rn.block (Rn.loop ?_))
  refine Rn.iter (fun m a w' => ∃ i u5 u12 u13 u14 u15 u16 u17, i + m = n ∧ a = ⟨#[.slice a0 n c, undef, .chan none, .chan (some w.heap.size), undef, u5, .slice a0 n c, .int .i64 n, .chan (some w.heap.size), .slice a0 n c, .int .i64 n, .int .i64 (i : Nat), u12, u13, u14, u15, u16, u17, undef, undef], []⟩ ∧ w' = fillW w n ev i) ?_ n _ _
    ⟨0, _, _, _, _, _, _, _, by omega, rfl, rfl⟩
  rintro m _ _ ⟨i, u5, u12, u13, u14, u15, u16, u17, hi, rfl, rfl⟩ ih
  refine Rn.seq (Rn.go ?_)
  go_wp2
  refine exNo_normal (Rn.seq ?_)
  by_cases hlt : i < n
  · have hd : decide (i < n) = true := by simpa using hlt
    simp only [hd]
    refine Rn.cond (t := true) rfl ?_
    simp only [if_true]
    refine Rn.go ?_
    go_wp2
    refine exNo_normal (Rn.seq (Rn.block (Rn.seq (Rn.go ?_))))
    obtain ⟨q, off, rfl, hq, hci⟩ := hc i hlt
    have hcell : (fillW w n ev i).cell? ⟨q, off + i, none⟩ = some (ev i) := (World.cell?_of_block (w := w) (a := ⟨q, off + i, none⟩) (Below.heap_alloc _ _ _ hq)).trans hci
    go_wp2
    refine exNo_normal (Rn.region' [0, 1, 2] rfl ?_)
    refine Rn.op rfl rfl rfl ?_
    refine Rn.op rfl rfl rfl ?_
    refine Rn.send (c := w.heap.size) (cap := n) (buf := ((List.range i).map ev).toArray) (s := i) (r := 0) (tm := false) (v := ev i) (z := .tuple #[]) (by decide) rfl rfl (by simp [execOp, scase, Act.eval, Act.put]) (heap_alloc_new _ _) (by simpa using hlt) ?_
    rw [show (fillW w n ev i).setChan w.heap.size n (((List.range i).map ev).toArray.push (ev i)) false (i + 1) 0 false = fillW w n ev (i + 1) by
      rw [fillW, setChan_alloc, fillW, List.range_succ, List.map_append]; simp]
    refine Rn.regionEnd (Rn.inBlock (Rn.go ?_))
    simp only [Act.put]
    have hw1 : IntKind.i64.wrap ((i : Int) + 1) = ((i + 1 : Nat) : Int) := by rw [IntKind.wrap_i64]; omega
    go_wp2
    refine exNo_normal (ih (m - 1) _ _ (by omega) ⟨i + 1, _, _, _, _, _, _, _, by omega, rfl, rfl⟩)
  · have hd : decide (i < n) = false := by simpa using hlt
    have hin : i = n := by omega
    subst hin
    simp only [hd]
    refine Rn.cond (t := false) rfl ?_
    simp only [if_false, Bool.false_eq_true]
    refine Rn.exit rfl (Rn.seq (Rn.go ?_))
    have hcl := fun ats ty => run_close_open (P := Tryz.prog) (w := fillW w i ev i) ats ty (heap_alloc_new w _)
    go_wp2
    refine exNo_normal (Rn.seq (Rn.go ?_))
    go_wp2
    refine exNo_normal (Rn.ret rfl rfl Tryz.func62 (by simp [results, Tryz.results62, go_sem]) ⟨rfl, close_alloc w _ _⟩)
set_option maxRecDepth 20000 in
theorem filledL_any {w : World} (a0 : Option Addr) (n c : Nat) (ev : Nat → Value) (hn : n ≤ 5000000) (hc : ∀ i, i < n → ∃ q off, a0 = some ⟨q, off, none⟩ ∧ q < w.heap.size ∧ w.cell? ⟨q, off + i, none⟩ = some (ev i)) :
    Calls Tryz.prog 63 #[.slice a0 n c] w fun e w' => e = .returned (.chan (some w.heap.size)) ∧ w' = w.alloc (.chan n ((List.range n).map ev).toArray true n 0 false) := by
  refine calls_of_rn Tryz.func63 rfl ?_
  rw [Tryz.ntmps63, enter_tmps (.slice a0 n c) 20 19 [.slice a0 n c, undef, undef, undef, undef, undef, undef, undef, undef, undef, undef, undef, undef, undef, undef, undef, undef, undef, undef, undef] rfl rfl]
  have hmk := mkL n hn w
  refine Rn.seq (Rn.go ?_)
  go_wp2
  refine exNo_normal (Rn.seq (Rn.go ?_))
  go_wp2
  refine exNo_normal (Rn.seq (Rn.seq (Rn.go ?_)))
  go_wp2
  refine exNo_normal (Rn.block (Rn.loop ?_))
  refine Rn.iter (fun m a w' => ∃ i u5 u12 u13 u14 u15 u16 u17, i + m = n ∧ a = ⟨#[.slice a0 n c, undef, .chan none, .chan (some w.heap.size), undef, u5, .slice a0 n c, .int .i64 n, .chan (some w.heap.size), .slice a0 n c, .int .i64 n, .int .i64 (i : Nat), u12, u13, u14, u15, u16, u17, undef, undef], []⟩ ∧ w' = fillW w n ev i) ?_ n _ _
    ⟨0, _, _, _, _, _, _, _, by omega, rfl, rfl⟩
  rintro m _ _ ⟨i, u5, u12, u13, u14, u15, u16, u17, hi, rfl, rfl⟩ ih
  refine Rn.seq (Rn.go ?_)
  go_wp2
  refine exNo_normal (Rn.seq ?_)
  by_cases hlt : i < n
  · have hd : decide (i < n) = true := by simpa using hlt
    simp only [hd]
    refine Rn.cond (t := true) rfl ?_
    simp only [if_true]
    refine Rn.go ?_
    go_wp2
    refine exNo_normal (Rn.seq (Rn.block (Rn.seq (Rn.go ?_))))
    obtain ⟨q, off, rfl, hq, hci⟩ := hc i hlt
    have hcell : (fillW w n ev i).cell? ⟨q, off + i, none⟩ = some (ev i) := (World.cell?_of_block (w := w) (a := ⟨q, off + i, none⟩) (Below.heap_alloc _ _ _ hq)).trans hci
    go_wp2
    refine exNo_normal (Rn.region' [0, 1, 2] rfl ?_)
    refine Rn.op rfl rfl rfl ?_
    refine Rn.op rfl rfl rfl ?_
    refine Rn.send (c := w.heap.size) (cap := n) (buf := ((List.range i).map ev).toArray) (s := i) (r := 0) (tm := false) (v := ev i) (z := .tuple #[]) (by decide) rfl rfl (by simp [execOp, scase, Act.eval, Act.put]) (heap_alloc_new _ _) (by simpa using hlt) ?_
    rw [show (fillW w n ev i).setChan w.heap.size n (((List.range i).map ev).toArray.push (ev i)) false (i + 1) 0 false = fillW w n ev (i + 1) by
      rw [fillW, setChan_alloc, fillW, List.range_succ, List.map_append]; simp]
    refine Rn.regionEnd (Rn.inBlock (Rn.go ?_))
    simp only [Act.put]
    have hw1 : IntKind.i64.wrap ((i : Int) + 1) = ((i + 1 : Nat) : Int) := by rw [IntKind.wrap_i64]; omega
    go_wp2
    refine exNo_normal (ih (m - 1) _ _ (by omega) ⟨i + 1, _, _, _, _, _, _, _, by omega, rfl, rfl⟩)
  · have hd : decide (i < n) = false := by simpa using hlt
    have hin : i = n := by omega
    subst hin
    simp only [hd]
    refine Rn.cond (t := false) rfl ?_
    simp only [if_false, Bool.false_eq_true]
    refine Rn.exit rfl (Rn.seq (Rn.go ?_))
    have hcl := fun ats ty => run_close_open (P := Tryz.prog) (w := fillW w i ev i) ats ty (heap_alloc_new w _)
    go_wp2
    refine exNo_normal (Rn.seq (Rn.go ?_))
    go_wp2
    refine exNo_normal (Rn.ret rfl rfl Tryz.func63 (by simp [results, Tryz.results63, go_sem]) ⟨rfl, close_alloc w _ _⟩)
end Go.Proofs.YtfmbebofllgmoaaGreatDoor
namespace Go.Proofs.YtfmbebofllgmoaaGreatDoor
open Go.RowKit
attribute [local go_sem ↓] Go.wp_at_zero Go.wp_at_succ

/-- A writer in memory: its struct at lb, its bytes in a row of its own. -/
structure LogAt (w : World) (lb B : Nat) (v : Value) (b : ByteArray) : Prop where
  cell : w.cell? ⟨lb, 0, none⟩ = some v
  free : w.frozen? ⟨lb, 0, none⟩ = false
  row : OwnB w B v b
  sep : ¬ own v lb
  lt : lb < w.heap.size
def lgS (lb : Nat) (v : Value) (k : Nat) : Prop := k = lb ∨ own v k

/-- In the midst of a record. -/
structure HI (w : World) (lb B : Nat) (v0 : Value) (vb : Value) (bd : ByteArray) (W : World) (v : Value) (b : ByteArray) : Prop where
  log : LogAt W lb B v b
  body : OwnB W w.heap.size vb bd
  sep : ∀ k, own v k → ¬ own vb k
  old : lb < w.heap.size
  fr : Fr (lgS lb v0) w W (lgS lb v)
  bb : B ≤ w.heap.size

theorem HI.next {w : World} {lb B : Nat} {v0 vb : Value} {bd : ByteArray} {W : World} {v : Value} {b : ByteArray} (h : HI w lb B v0 vb bd W v b) {W' : World} {v' : Value} {b' : ByteArray} (hr : OwnB W' B v' b') (hf : Fr (own v) W W' (own v')) :
    HI w lb B v0 vb bd (W'.setCell ⟨lb, 0, none⟩ v') v' b' := by
  have hn : ¬ own v' lb := fun e => h.log.sep (hf.old lb h.log.lt e)
  have hc : W'.cell? ⟨lb, 0, none⟩ = some v := (hf.cell lb 0 h.log.lt h.log.sep).trans h.log.cell
  have hz : (W'.setCell ⟨lb, 0, none⟩ v').heap.size = W'.heap.size := by simp [World.setCell]
  have hvb : ∀ q, own vb q → q < W.heap.size := fun q hq => (h.body.bump q hq).2
  refine ⟨⟨?_, ?_, ?_, hn, by rw [hz]; exact Nat.lt_of_lt_of_le h.log.lt hf.size⟩, ?_, ?_, h.old, ?_, h.bb⟩
  · exact World.cell?_setCell_same' _ _ _ (by rw [hc]; rfl)
  · rw [World.frozen?_setCell]; exact (hf.frozen lb 0 h.log.lt h.log.sep).trans h.log.free
  · exact hr.block fun q hq => Below.heap_setCell _ _ _ _ (by rintro rfl; exact hn hq)
  · refine h.body.block fun q hq => ?_
    have h1 := (h.body.bump q hq)
    have h2 := h.old
    exact (Below.heap_setCell _ _ _ _ (by show q ≠ lb; omega)).trans (hf.same q h1.2 (fun e => h.sep q e hq))
  · intro k hk hb
    exact h.sep k (hf.old k (hvb k hb) hk) hb
  · have h1 : Fr (lgS lb v) W W' (lgS lb v') := ⟨hf.os, hf.tape, hf.output, hf.size, fun k hk hn => hf.same k hk (fun e => hn (.inr e)), fun k hk e => e.elim .inl (fun e => .inr (hf.old k hk e))⟩
    exact (h.fr.trans h1).setCell _ _ (.inl (.inl rfl))

theorem OwnB.cells {w : World} {B g n cap : Nat} {b : ByteArray} (h : OwnB w B (.slice (some ⟨g, 0, none⟩) n cap) b) (h0 : 0 < b.size) : ∀ j u, (u8s b)[j]? = some u → w.cell? ((⟨g, 0, none⟩ : Addr).add j) = some u := by
  obtain ⟨g', cap', e, _, hc⟩ := h.bytes h0
  injection e with e _ _
  injection e with e
  injection e with e _ _
  subst e
  intro j u hj
  rw [addr_add]
  exact hc j u hj
theorem Fr.cell_own {v v' : Value} {w w' : World} (h : Fr (own v) w w' (own v')) {lb B : Nat} {b : ByteArray} (hl : LogAt w lb B v b) : w'.cell? ⟨lb, 0, none⟩ = some v ∧ w'.frozen? ⟨lb, 0, none⟩ = false :=
  ⟨(h.cell lb 0 hl.lt hl.sep).trans hl.cell, (h.frozen lb 0 hl.lt hl.sep).trans hl.free⟩

set_option maxHeartbeats 1000000 in
set_option maxRecDepth 20000 in
/-- An input is written down. -/
theorem wheard_any {w : World} {lb B : Nat} {v : Value} {b bd : ByteArray} (h : LogAt w lb B v b) (hB : B ≤ w.heap.size) (x0 x1 x2 : Value) (a : Option Addr) (l c : Nat) (z0 z1 z2 : Int) (e0 : x0 = .int .i64 z0) (e1 : x1 = .int .i64 z1) (e2 : x2 = .int .i64 z2)
    (hbd : bd.size ≤ 1000) (h0 : 0 < bd.size) (hb : b.size ≤ 800000000)
    (hbody : Calls Tryz.prog 102 #[.agg #[x0, x1, x2, .slice a l c]] (w.alloc (.cells #[x0, x1, x2, .slice a l c] 49)) fun e w' => ∃ v', e = .returned v' ∧ OwnB w' (w.heap.size + 1) v' bd ∧ Fr (fun _ => False) (w.alloc (.cells #[x0, x1, x2, .slice a l c] 49)) w' (fun _ => False)) :
    Calls Tryz.prog 64 #[.pointer (some ⟨lb, 0, none⟩), .agg #[x0, x1, x2, .slice a l c]] w fun e w' => ∃ v', e = .returned (.tuple #[]) ∧ LogAt w' lb B v' (b ++ frameS bd) ∧ Fr (lgS lb v) w w' (lgS lb v') := by
  subst e0 e1 e2
  have hvs := varS_small bd.size (by omega)
  have hstart : ∀ (w1 : World) (vb : Value), OwnB w1 (w.heap.size + 1) vb bd → Fr (fun _ => False) (w.alloc (.cells #[.int .i64 z0, .int .i64 z1, .int .i64 z2, .slice a l c] 49)) w1 (fun _ => False) → HI w lb B v vb bd w1 v b := by
    intro w1 vb ho hf
    have hf' : Fr (fun _ => False) w w1 (fun _ => False) := hf.unalloc
    have hlt := h.lt
    have hbmp := fun k hk => (h.row.bump k hk).2
    refine ⟨⟨(hf'.cell lb 0 hlt (fun h => h)).trans h.cell, (hf'.frozen lb 0 hlt (fun h => h)).trans h.free, h.row.block (fun q hq => hf'.same q (hbmp q hq) (fun h => h)), h.sep, Nat.lt_of_lt_of_le hlt hf'.size⟩, ?_, ?_, hlt, ?_, hB⟩
    · exact ho.low (by omega)
    · intro k hk hkb
      have h1 := hbmp k hk
      have h2 := (ho.bump k hkb).1
      omega
    · exact ⟨hf'.os, hf'.tape, hf'.output, hf'.size, fun k hk _ => hf'.same k hk (fun h => h), fun k hk e => e⟩
  have HB := hide (show b ++ frameS bd = b ++ varS bd.size ++ bd ++ sumS bd by unfold frameS; rw [← ByteArray.append_assoc, ← ByteArray.append_assoc])
  have Z1 := hide (show b.size + (varS bd.size).size ≤ 1000000000 by omega)
  have Z2 := hide (show (b ++ varS bd.size).size + bd.size ≤ 1000000000 by rw [ByteArray.size_append]; omega)
  have Z3 := hide (show (b ++ varS bd.size ++ bd).size ≤ 900000000 by rw [ByteArray.size_append, ByteArray.size_append]; omega)
  have HST := hide hstart
  have HBW := hide hB
  clear hstart h hvs hb
  go_enter Tryz.func64, Tryz.ntmps64
  go_wp2_with (first
    | (go_at_call 102; refine hbody.mono ?_; rintro e w1 ⟨vb, rfl, o1, f1⟩; obtain ⟨g, cap, rfl, _, _⟩ := o1.bytes h0; have hi := unhide HST _ _ o1 f1; have cl := hi.log.cell; have H1 := hide hi; clear o1 f1 hi)
    | (go_at_call 103; refine (appendVarint_any (unhide H1).log.row bd.size (by omega) (unhide Z1) (Nat.le_trans (unhide HBW) (unhide H1).fr.size)).mono ?_; rintro e w2 ⟨v2, rfl, o2, f2⟩; obtain ⟨a2, n2, c2, rfl⟩ := o2.shape; obtain ⟨k1, k2⟩ := f2.cell_own (unhide H1).log; have hi := (unhide H1).next o2 f2; have cl2 := hi.log.cell; have H2 := hide hi; clear o2 f2 hi)
    | (at_builtin; refine wpList_bytes (c := bd) rfl (.tmp 21) (.tmp 22) rfl rfl rfl (unhide H2).log.row ((unhide H2).body.cells h0) h0 (unhide Z2) (Nat.le_trans (unhide HBW) (unhide H2).fr.size) ?_; intro v3 w3 o3 f3; obtain ⟨a3, n3, c3, rfl⟩ := o3.shape; obtain ⟨k3, k4⟩ := f3.cell_own (unhide H2).log; have hi := (unhide H2).next o3 f3; have cl3 := hi.log.cell; have H3 := hide hi; clear o3 f3 hi)
    | (go_at_call 100; refine (appendSum_any (unhide H3).log.row ((unhide H3).body.at h0) (by omega) (unhide Z3) (Nat.le_trans (unhide HBW) (unhide H3).fr.size)).mono ?_; rintro e w4 ⟨v4, rfl, o4, f4⟩; obtain ⟨a4, n4, c4, rfl⟩ := o4.shape; obtain ⟨k5, k6⟩ := f4.cell_own (unhide H3).log; have hi := (unhide H3).next o4 f4; have H4 := hide hi; clear o4 f4 hi))
  refine ⟨rfl, .tuple #[], by simp [results, Tryz.results64, go_sem], ?_⟩
  exact ⟨_, rfl, by rw [unhide HB]; exact (unhide H4).log, (unhide H4).fr⟩
end Go.Proofs.YtfmbebofllgmoaaGreatDoor
namespace Go.Proofs.YtfmbebofllgmoaaGreatDoor
open Go.RowKit Go.Sort
attribute [local go_sem ↓] Go.wp_at_zero Go.wp_at_succ

/-- The questions that a run asks. -/
structure MayOk (may : Int → Int → Prop) : Prop where
  clock : may 1 0
  batch : may 2 0
  pick : ∀ n : Nat, 2 ≤ n → n ≤ 8 → may 3 n
  lot : ∀ v, 1 ≤ v → v ≤ 1000000 → may 4 v
/-- The program in memory. -/
structure PgAt (w0 : World) (pv : Nat → Value) (p : Pg) : Prop where
  s : OpsIn w0 (pv 0) p.sn p.sf
  t : HandsIn w0 (pv 1) p.tn p.tl p.tf
  f : HandsIn w0 (pv 2) p.fn p.fl p.ff

section
variable {σ : Type} {SA : (Nat → Prop) → World → σ → Prop} {ask : σ → Int → Int → Rep × σ} {may : Int → Int → Prop} {mes : σ → Nat} {B : Nat} {S T : Nat → Prop} {w : World} {b : Nat} {pv : Nat → Value} {vt : Value} {s : PS} {x : σ}

set_option maxHeartbeats 2000000 in
theorem turn_any (L : SrcLaw SA) {rb tyS fnS : Nat} (K : HearSpec SA ask may B rb tyS fnS) (hp : pv 3 = .iface tyS (.pointer (some ⟨rb, 0, none⟩))) (hm : MayOk may) (hs : SrcOk ask mes)
    {w0 : World} (hB : B = w0.heap.size) (hbel : Below w0.heap.size w0 w) (h : RI SA B S w b pv vt T s x) {p : Pg} (hv : PgAt w0 pv p) (ho : PgOk p) {N : Nat} (hq : RInv p N s) (hN : N + 16 ≤ 100000000) :
    Calls Tryz.prog 55 #[.pointer (some ⟨b, 0, none⟩)] w fun e w' => e = .returned (.tuple #[]) ∧ RunPost SA B S w b pv (turnM ask p s x).1 (turnM ask p s x).2 w' := by
  have HSB := hide (fun k (hk : S k) => (h.bound k hk).1)
  have HBW := hide (show B ≤ w.heap.size by have := h.bound b h.inB; omega)
  have hid := hide (idle_any L h)
  have hb0 := (h.bound b h.inB).2
  have HIN := hide h.inB
  have hck := fun (w1 : World) (r : RI SA B S w1 b pv vt T s x) => hearClock_any L K hp r hm.clock
  have HCK := hide hck
  have HQ1 := hide (ckS_rinv hs x hq)
  clear hck h
  cases hi : idleB s
  · have e0 : turnM ask p s x = if ckB s (ask x 1 0).1 then
        (if (frM (gT ask p) (dueS (ckS s (ask x 1 0).1)) (ckS s (ask x 1 0).1) (ask x 1 0).2).1.fin = 0 then wakeM ask p (frM (gT ask p) (dueS (ckS s (ask x 1 0).1)) (ckS s (ask x 1 0).1) (ask x 1 0).2).1 (frM (gT ask p) (dueS (ckS s (ask x 1 0).1)) (ckS s (ask x 1 0).1) (ask x 1 0).2).2
         else frM (gT ask p) (dueS (ckS s (ask x 1 0).1)) (ckS s (ask x 1 0).1) (ask x 1 0).2)
      else (ckS s (ask x 1 0).1, (ask x 1 0).2) := by unfold turnM; rw [if_neg (by rw [hi]; simp)]
    rw [e0]
    rw [hi] at hid
    clear e0 hi
    generalize ckS s (ask x 1 0).1 = s1 at *
    generalize (ask x 1 0).2 = x1 at *
    cases hcb : ckB s (ask x 1 0).1
    · rw [hcb] at HCK
      clear hcb
      rw [if_neg (by simp)]
      go_enter Tryz.func55, Tryz.ntmps55
      go_wp2_with (first | (go_at_call 94; refine (unhide hid).mono ?_; rintro e w1 ⟨rfl, r1, r2⟩; have R1 := hide r1; have R2 := hide r2; clear r1 r2) | (go_at_call 95; refine (unhide HCK _ (unhide R1)).mono ?_; rintro e w2 ⟨rfl, S2, vt2, T2, r3, r4⟩; have R3 := hide r3; have R4 := hide r4; clear r3 r4))
      refine bodyPost_ret (v := .tuple #[]) (by simp [results, Tryz.results55, go_sem]) rfl ?_
      exact ⟨rfl, S2, vt2, T2, unhide R3, (unhide R2).trans (unhide R4)⟩
    · rw [hcb] at HCK
      clear hcb
      rw [if_pos rfl]
      have hfr := hide (frM_rinv hs ho (dueS s1) N s1 x1 (fun t ht => mem_due (unhide HQ1).2 ht) (unhide HQ1))
      have hdl := due_length s1
      generalize hF : frM (gT ask p) (dueS s1) s1 x1 = F at *
      have HF := hide hF
      clear hF
      obtain ⟨s2, x2⟩ := F
      simp only at hfr ⊢
      by_cases hf0 : s2.fin = 0
      · rw [if_pos hf0]
        have hfb : (s2.fin == 0) = true := by simpa using hf0
        clear hf0
        go_enter Tryz.func55, Tryz.ntmps55
        go_wp2_with (first | (go_at_call 94; refine (unhide hid).mono ?_; rintro e w1 ⟨rfl, r1, r2⟩; have R1 := hide r1; have R2 := hide r2; clear r1 r2) | (go_at_call 95; refine (unhide HCK _ (unhide R1)).mono ?_; rintro e w2 ⟨rfl, S2, vt2, T2, r3, r4⟩; have R3 := hide r3; have R4 := hide ((unhide R2).trans r4); clear r3 r4) | (go_at_call 96; refine (fire_any L K hp hm.clock hm.lot hs.clock hB (below_of hbel hB (unhide HSB) (unhide HBW) (unhide R4)) (unhide R3) hv.t ho.tl ho.tn ho.fn ho.tr (unhide HQ1).1 (by omega) (unhide HQ1).2).mono ?_; rintro e w3 ⟨rfl, S3, vt3, T3, r5, r6⟩; rw [show frM (fun z s x => hM ask (p.tf z.toNat) (p.tl z.toNat) (p.tl z.toNat) { s with next := 0 } x) (dueS s1) s1 x1 = (s2, x2) from unhide HF] at r5; have c66 := (r5.cell 66 (by omega)).trans (by rw [img_fin]); have R5 := hide r5; have R6 := hide ((unhide R4).trans r6); clear r5 r6) | (go_at_call 97; refine (wake_any L K hp hm.clock hm.batch hm.pick hm.lot hs.clock hs.pick hB (below_of hbel hB (unhide HSB) (unhide HBW) (unhide R6)) (unhide R5) hv.f ho.fl ho.tn ho.fn ho.fr (unhide hfr).1 (by omega) (unhide hfr).2 (hs.files x2) (hs.most x2)).mono ?_; rintro e w4 ⟨rfl, S4, vt4, T4, r7, r8⟩; have R7 := hide r7; have R8 := hide ((unhide R6).trans r8); clear r7 r8))
        go_end0
        exact ⟨rfl, S4, vt4, T4, unhide R7, unhide R8⟩
      · rw [if_neg hf0]
        have hfb : (s2.fin == 0) = false := by simpa using hf0
        clear hf0
        go_enter Tryz.func55, Tryz.ntmps55
        go_wp2_with (first | (go_at_call 94; refine (unhide hid).mono ?_; rintro e w1 ⟨rfl, r1, r2⟩; have R1 := hide r1; have R2 := hide r2; clear r1 r2) | (go_at_call 95; refine (unhide HCK _ (unhide R1)).mono ?_; rintro e w2 ⟨rfl, S2, vt2, T2, r3, r4⟩; have R3 := hide r3; have R4 := hide ((unhide R2).trans r4); clear r3 r4) | (go_at_call 96; refine (fire_any L K hp hm.clock hm.lot hs.clock hB (below_of hbel hB (unhide HSB) (unhide HBW) (unhide R4)) (unhide R3) hv.t ho.tl ho.tn ho.fn ho.tr (unhide HQ1).1 (by omega) (unhide HQ1).2).mono ?_; rintro e w3 ⟨rfl, S3, vt3, T3, r5, r6⟩; rw [show frM (fun z s x => hM ask (p.tf z.toNat) (p.tl z.toNat) (p.tl z.toNat) { s with next := 0 } x) (dueS s1) s1 x1 = (s2, x2) from unhide HF] at r5; have c66 := (r5.cell 66 (by omega)).trans (by rw [img_fin]); have R5 := hide r5; have R6 := hide ((unhide R4).trans r6); clear r5 r6))
        refine bodyPost_ret (v := .tuple #[]) (by simp [results, Tryz.results55, go_sem]) rfl ?_
        exact ⟨rfl, S3, vt3, T3, unhide R5, unhide R6⟩
  · have e0 : turnM ask p s x = ({ s with fin := 2 }, x) := by unfold turnM; rw [if_pos hi]
    rw [e0]
    rw [hi] at hid
    clear e0 hi
    go_enter Tryz.func55, Tryz.ntmps55
    go_wp2_with (go_at_call 94; refine (unhide hid).mono ?_; rintro e w1 ⟨rfl, r1, r2⟩; have c66 := r1.cell 66 (by omega); have f66 := r1.free 66 (by omega); have R1 := hide r1; have R2 := hide r2; generalize img pv vt s 66 = old at c66; clear r1 r2)
    refine bodyPost_ret (v := .tuple #[]) (by simp [results, Tryz.results55, go_sem]) rfl ?_
    exact ⟨rfl, S, vt, T, (unhide R1).set L 66 (.int .i64 2) _ (by omega) (set_fin pv vt _ 2) rfl, (unhide R2).setCell _ _ (.inl (unhide HIN))⟩
end
end Go.Proofs.YtfmbebofllgmoaaGreatDoor
