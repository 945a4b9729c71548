/-
  PROVED HERE: laws for walking a function that sends and receives in one goroutine: from each place of its text to its return. world.filled makes a channel that holds the list and is closed: of numbers and of lists. the log's writer: Heard writes a record, End the last one. the log's writer begins with its head, and ends with the record of the end. what a world's source answers, by kind. the recorder hears what its source answers and writes it down. the recorder over a world is a source that keeps its word. world.New makes a source of all that a world says. how a run may end, in numbers; a program that Check takes is one. the recorder as Record makes it. Record runs a program by a world and writes what it heard. the reader's record: what the record tells with which bytes begin, or why there is none.
-/
import Derived.Conc.LoneCalls
import Derived.Calls
import Derived.Tactics
import Derived.Test.YtfmbebofllgmoaaGreatDoorProg
import Derived.WalkKit
import Derived.WalkSpells
import Derived.WalkLawsBesides
import Derived.KernelRfl
import Derived.Laws.Rows
import Derived.Test.YtfmbebofllgmoaaGreatDoorMlogs
import Derived.Test.YtfmbebofllgmoaaGreatDoorMloopb
import Derived.Lib.SlBytesConst
import Derived.Test.YtfmbebofllgmoaaGreatDoorMread
import Derived.Laws.IdiomStrings
import Derived.Deep.DeepCutAuto
namespace Go.Proofs.YtfmbebofllgmoaaGreatDoor
open Go.Conc Go.RowKit

/-- From here (what is left to do, the temporaries, the world) the frame comes to its return, and R holds. -/
def Rn (P : Program) (b : Frame) (R : Ending → World → Prop) (todo : List Item) (a : Act) (w : World) : Prop :=
  ∀ cs, ∃ v w' fr, R (.returned v) w' ∧ Steps P (lone (b.at a todo) cs w) (lone fr cs w') ∧ fr.fn = b.fn ∧ fr.leaving P w' (.returned v)

section
variable {P : Program} {b : Frame} {R : Ending → World → Prop} {k : List Item} {a : Act} {w : World}

theorem Rn.step {todo todo' : List Item} {a' : Act} {w' : World} (h : ∀ cs, Go.step P (lone (b.at a todo) cs w) = .next (lone (b.at a' todo') cs w')) (h' : Rn P b R todo' a' w') : Rn P b R todo a w :=
  fun cs => let ⟨v, w₂, fr, hr, hs, hf, hl⟩ := h' cs; ⟨v, w₂, fr, hr, Steps.head (h cs) hs, hf, hl⟩

theorem Rn.seq {x y : Code} (h : Rn P b R (.code x :: .code y :: k) a w) : Rn P b R (.code (.seq x y) :: k) a w := .step (fun _ => step_seq) h
theorem Rn.block {id : Nat} {c : Code} (h : Rn P b R (.code c :: .inBlock id :: k) a w) : Rn P b R (.code (.block id c) :: k) a w := .step (fun _ => step_block) h
theorem Rn.inBlock {id : Nat} (h : Rn P b R k a w) : Rn P b R (.inBlock id :: k) a w := .step (fun _ => step_inBlock) h
theorem Rn.loop {c : Code} (h : Rn P b R (.code c :: .inLoop c :: k) a w) : Rn P b R (.code (.loop c) :: k) a w := .step (fun _ => step_loop) h
theorem Rn.inLoop {c : Code} (h : Rn P b R (.code c :: .inLoop c :: k) a w) : Rn P b R (.inLoop c :: k) a w := .step (fun _ => step_inLoop) h
theorem Rn.cond {c : Operand} {x y : Code} {t : Bool} (hc : a.eval c = .bool t) (h : Rn P b R (.code (if t then x else y) :: k) a w) : Rn P b R (.code (.cond c x y) :: k) a w := .step (fun _ => step_cond hc) h
theorem Rn.exit {id : Nat} {k' : List Item} (hk : exitTo id k = some k') (h : Rn P b R k' a w) : Rn P b R (.code (.exit id) :: k) a w := .step (fun _ => step_exit hk) h
theorem Rn.region {id : Nat} {ops : Array Oper} (h : Rn P b R (.inRegion ops (List.range ops.size) :: k) a w) : Rn P b R (.code (.region id ops false) :: k) a w := .step (fun _ => step_region) h
theorem Rn.regionEnd {ops : Array Oper} (h : Rn P b R k a w) : Rn P b R (.inRegion ops [] :: k) a w := .step (fun _ => step_region_end) h

/-- A return. -/
theorem Rn.ret {fn : Func} {v : Value} (hk : b.kind = .normal) (hd : a.defers = []) (hf : P.funcs[b.fn]? = some fn) (hv : (results fn a.tmps).run P w = .ok v w) (h : R (.returned v) w) : Rn P b R (.code .ret :: k) a w :=
  fun _ => ⟨v, w, _, h, .one step_ret, rfl, rfl, hd, hk, fn, hf, hv⟩

/-- A piece that the kit's walk takes whole. -/
theorem Rn.code {c : Code} {Q : Act → World → Prop} {ret : Act → World → Prop} {ex : Nat → Act → World → Prop}
    (h : c.wp P (fun e a w => match e with | .normal => Q a w | .ret => ret a w | .exit id => ex id a w | _ => False) a w)
    (hn : ∀ a' w', Q a' w' → Rn P b R k a' w')
    (hr : ∀ a' w', ret a' w' → a'.defers = [] ∧ b.kind = .normal ∧ ∃ fn v, P.funcs[b.fn]? = some fn ∧ (results fn a'.tmps).run P w' = .ok v w' ∧ R (.returned v) w')
    (he : ∀ id a' w', ex id a' w' → ∃ k', exitTo id k = some k' ∧ Rn P b R k' a' w') : Rn P b R (.code c :: k) a w := by
  intro cs
  obtain ⟨e, a', w', hq, harr⟩ := h b k cs
  cases e with
  | normal =>
    obtain ⟨v, w₂, fr, hR, hs, hf, hl⟩ := hn _ _ hq cs
    exact ⟨v, w₂, fr, hR, Steps.trans harr hs, hf, hl⟩
  | ret =>
    obtain ⟨hd, hk, fn, v, hf, hv, hR⟩ := hr _ _ hq
    obtain ⟨todo, hs⟩ := harr
    exact ⟨v, w', _, hR, hs, rfl, rfl, hd, hk, fn, hf, hv⟩
  | exit id =>
    obtain ⟨k', hk', h'⟩ := he _ _ _ hq
    obtain ⟨v, w₂, fr, hR, hs, hf, hl⟩ := h' cs
    exact ⟨v, w₂, fr, hR, Steps.trans (harr k' hk') hs, hf, hl⟩
  | goto l => exact hq.elim
  | panic c => exact hq.elim
  | outgrown => exact hq.elim

/-- What is left of a region, by the kit's walk. -/
theorem Rn.ops {ops : Array Oper} {l : List Nat} {Q : Act → World → Prop} (h : wpOps P ops (fun e a w => match e with | .normal => Q a w | _ => False) l a w)
    (hn : ∀ a' w', Q a' w' → Rn P b R k a' w') : Rn P b R (.inRegion ops l :: k) a w := by
  intro cs
  obtain ⟨e, a', w', hq, harr⟩ := wp_ops l a w h b k cs
  cases e with
  | normal =>
    obtain ⟨v, w₂, fr, hR, hs, hf, hl⟩ := hn _ _ hq cs
    exact ⟨v, w₂, fr, hR, Steps.trans harr hs, hf, hl⟩
  | ret => exact hq.elim
  | exit id => exact hq.elim
  | goto l => exact hq.elim
  | panic c => exact hq.elim
  | outgrown => exact hq.elim

/-- One operation that yields a value. -/
theorem Rn.op {ops : Array Oper} {i : Nat} {rest : List Nat} {o : Oper} {v : Value} {w' : World} (ho : ops[i]? = some o) (hw : Region.wanted o (yielded ops a.tmps) = true)
    (hr : (execOp a.eval o).run P w = .ok (.value v) w') (h : Rn P b R (.inRegion ops rest :: k) (a.put o.dst v) w') : Rn P b R (.inRegion ops (i :: rest) :: k) a w :=
  .step (fun cs => by
    have hg := stepG_op (P := P) (b := b) (k := k) (cs := cs) (w := w) (rest := rest) ho hw
    have hfin : (b.at a (.inRegion ops (i :: rest) :: k)).finish v = b.at (a.put o.dst v) (.inRegion ops rest :: k) := by rw [Frame.finish_at, ho]; rfl
    refine step_lone_go ?_
    rw [hg, ← hfin]; simp [stepG.apply, hr]) h

/-- A send into a channel with room. -/
theorem Rn.send {ops : Array Oper} {i : Nat} {rest : List Nat} {o : Oper} {c cap s r : Nat} {buf : Array Value} {tm : Bool} {v z : Value} (hk : b.kind ≠ .early) (ho : ops[i]? = some o) (hw : Region.wanted o (yielded ops a.tmps) = true)
    (hr : (execOp a.eval o).run P w = .ok (.comm #[scase c v z] true .send) w) (hc : w.heap[c]? = some (.chan cap buf false s r tm)) (hroom : buf.size < cap)
    (h : Rn P b R (.inRegion ops rest :: k) (a.put o.dst undef) (w.setChan c cap (buf.push v) false (s + 1) r tm)) : Rn P b R (.inRegion ops (i :: rest) :: k) a w :=
  .step (fun cs => by
    have hfin : (b.at a (.inRegion ops (i :: rest) :: k)).finish undef = b.at (a.put o.dst undef) (.inRegion ops rest :: k) := by rw [Frame.finish_at, ho]; rfl
    rw [lone_eq_solo, lone_eq_solo, ← hfin]
    exact step_lone_send_room (stepG_comm ho hw hk hr) hc hroom) h

/-- A receive from a channel that holds something. -/
theorem Rn.recv {ops : Array Oper} {i : Nat} {rest : List Nat} {o : Oper} {c cap s r : Nat} {buf : Array Value} {closed tm : Bool} {z : Value} (ok : Bool) (hk : b.kind ≠ .early) (ho : ops[i]? = some o) (hw : Region.wanted o (yielded ops a.tmps) = true)
    (hr : (execOp a.eval o).run P w = .ok (.comm #[rcase c z] true (.recv ok)) w) (hc : w.heap[c]? = some (.chan cap buf closed s r tm)) (hsome : 0 < buf.size)
    (h : Rn P b R (.inRegion ops rest :: k) (a.put o.dst (got ok (buf.getD 0 undef) true)) (w.setChan c cap (buf.extract 1 buf.size) closed s (r + 1) tm)) : Rn P b R (.inRegion ops (i :: rest) :: k) a w :=
  .step (fun cs => by
    have hfin : (b.at a (.inRegion ops (i :: rest) :: k)).finish (got ok (buf.getD 0 undef) true) = b.at (a.put o.dst (got ok (buf.getD 0 undef) true)) (.inRegion ops rest :: k) := by rw [Frame.finish_at, ho]; rfl
    rw [lone_eq_solo, lone_eq_solo, ← hfin]
    exact step_lone_recv_buf ok (stepG_comm ho hw hk hr) hc hsome) h

/-- A receive from a closed channel that holds nothing. -/
theorem Rn.shut {ops : Array Oper} {i : Nat} {rest : List Nat} {o : Oper} {c cap s r : Nat} {tm : Bool} {z : Value} (ok : Bool) (hk : b.kind ≠ .early) (ho : ops[i]? = some o) (hw : Region.wanted o (yielded ops a.tmps) = true)
    (hr : (execOp a.eval o).run P w = .ok (.comm #[rcase c z] true (.recv ok)) w) (hc : w.heap[c]? = some (.chan cap #[] true s r tm))
    (h : Rn P b R (.inRegion ops rest :: k) (a.put o.dst (got ok z false)) w) : Rn P b R (.inRegion ops (i :: rest) :: k) a w :=
  .step (fun cs => by
    have hfin : (b.at a (.inRegion ops (i :: rest) :: k)).finish (got ok z false) = b.at (a.put o.dst (got ok z false)) (.inRegion ops rest :: k) := by rw [Frame.finish_at, ho]; rfl
    rw [lone_eq_solo, lone_eq_solo, ← hfin]
    exact step_lone_recv_shut ok (stepG_comm ho hw hk hr) hc) h
end

/-- From the walk of its frame the contract of a function. -/
theorem calls_of_rn {P : Program} {f : FuncId} {fn : Func} {c : Code} {args : Array Value} {w : World} {R : Ending → World → Prop} (hf : P.funcs[f]? = some fn) (hb : fn.body = some c)
    (h : Rn P { (default : Frame) with fn := f, kind := .normal } R [.code c] { tmps := args ++ Array.replicate (fn.ntmps - args.size) undef, defers := [] } w) : Calls P f args w R := by
  intro cs
  have henter : Frame.enter P f args .normal = ({ (default : Frame) with fn := f, kind := .normal } : Frame).at { tmps := args ++ Array.replicate (fn.ntmps - args.size) undef, defers := [] } [.code c] := by
    simp [Frame.enter, Frame.at, hf, hb]
  obtain ⟨v, w', fr, hR, hs, hfn, hl⟩ := h cs
  exact ⟨.returned v, w', fr, hR, by rw [henter]; exact hs, hfn, hl⟩
end Go.Proofs.YtfmbebofllgmoaaGreatDoor
namespace Go.Proofs.YtfmbebofllgmoaaGreatDoor
open Go.RowKit Go.Conc

def exNo (K : Act → World → Prop) : Exit → Act → World → Prop
  | .normal, a, w => K a w
  | _, _, _ => False
theorem Rn.go {P : Program} {b : Frame} {R : Ending → World → Prop} {k : List Item} {a : Act} {w : World} {c : Code} (h : c.wp P (exNo (Rn P b R k)) a w) : Rn P b R (.code c :: k) a w :=
  Rn.code (Q := Rn P b R k) (ret := fun _ _ => False) (ex := fun _ _ _ => False) (wp_mono h (fun e a w h => by cases e <;> exact h)) (fun _ _ h => h) (fun _ _ h => h.elim) (fun _ _ _ h => h.elim)

theorem mkI (n : Nat) (hn : n ≤ 5000000) (w : World) : (Instr.makeChan 171 (.int .i64 n)).run Tryz.prog w = .ok (.chan (some w.heap.size)) (w.alloc (.chan n #[] false 0 0 false)) := by
  have h : (Tryz.prog.info? 3).map (·.bytes) = some 8 := by kernel_rfl
  obtain ⟨i, hi, hb⟩ := Option.map_eq_some_iff.1 h
  exact run_makeChan (P := Tryz.prog) (w := w) Tryz.underlying171 hi .i64 n (by omega) (by rw [hb]; omega)

theorem enter_tmps (v : Value) (n m : Nat) (l : List Value) (h : n - 1 = m) (hl : l = v :: List.replicate m undef) : (#[v] ++ Array.replicate (n - (#[v] : Array Value).size) undef) = l.toArray := by
  subst hl
  simp [h]

theorem exNo_normal {K : Act → World → Prop} {a : Act} {w : World} (h : K a w) : exNo K .normal a w := h
theorem push_set_last (h : Array Obj) (o o' : Obj) : (h.push o).setIfInBounds h.size o' = h.push o' := by
  apply Array.ext_getElem?
  intro i
  by_cases e : i = h.size
  · subst e; simp
  · simp [Array.getElem?_push, e, Ne.symm e]
theorem setChan_alloc (w : World) (o : Obj) (cap : Nat) (buf : Array Value) (cl : Bool) (s r : Nat) (tm : Bool) : (w.alloc o).setChan w.heap.size cap buf cl s r tm = w.alloc (.chan cap buf cl s r tm) :=
  congrArg (fun h => ({ w with heap := h } : World)) (push_set_last w.heap o _)
theorem close_alloc (w : World) (o o' : Obj) : ({ (w.alloc o) with heap := (w.alloc o).heap.setIfInBounds w.heap.size o' } : World) = w.alloc o' :=
  congrArg (fun h => ({ w with heap := h } : World)) (push_set_last w.heap o _)
theorem Rn.iter {P : Program} {b : Frame} {R : Ending → World → Prop} {k : List Item} {X : Code} (I : Nat → Act → World → Prop)
    (h : ∀ m a w, I m a w → (∀ m' a' w', m' < m → I m' a' w' → Rn P b R (.inLoop X :: k) a' w') → Rn P b R (.code X :: .inLoop X :: k) a w) (m : Nat) : ∀ a w, I m a w → Rn P b R (.code X :: .inLoop X :: k) a w := by
  induction m using Nat.strongRecOn with
  | _ m ih => exact fun a w hI => h m a w hI (fun m' a' w' hm hI' => Rn.inLoop (ih m' hm a' w' hI'))

theorem Rn.region' {P : Program} {b : Frame} {R : Ending → World → Prop} {k : List Item} {a : Act} {w : World} {id : Nat} {ops : Array Oper} (l : List Nat) (hl : List.range ops.size = l) (h : Rn P b R (.inRegion ops l :: k) a w) : Rn P b R (.code (.region id ops false) :: k) a w := Rn.region (hl ▸ h)
/-- The channel's block when i have been sent. -/
def fillW (w : World) (n : Nat) (ev : Nat → Value) (i : Nat) : World := w.alloc (.chan n ((List.range i).map ev).toArray false i 0 false)

theorem mkL (n : Nat) (hn : n ≤ 5000000) (w : World) : (Instr.makeChan 172 (.int .i64 n)).run Tryz.prog w = .ok (.chan (some w.heap.size)) (w.alloc (.chan n #[] false 0 0 false)) := by
  have h : (Tryz.prog.info? 26).map (·.bytes) = some 24 := by kernel_rfl
  obtain ⟨i, hi, hb⟩ := Option.map_eq_some_iff.1 h
  exact run_makeChan (P := Tryz.prog) (w := w) Tryz.underlying172 hi .i64 n (by omega) (by rw [hb]; omega)

set_option maxRecDepth 20000 in
theorem filled_any {w : World} (a0 : Option Addr) (n c : Nat) (ev : Nat → Value) (hn : n ≤ 5000000) (hc : ∀ i, i < n → ∃ q off, a0 = some ⟨q, off, none⟩ ∧ q < w.heap.size ∧ w.cell? ⟨q, off + i, none⟩ = some (ev i)) :
    Calls Tryz.prog 62 #[.slice a0 n c] w fun e w' => e = .returned (.chan (some w.heap.size)) ∧ w' = w.alloc (.chan n ((List.range n).map ev).toArray true n 0 false) := by
  refine calls_of_rn Tryz.func62 rfl ?_
  rw [Tryz.ntmps62, enter_tmps (.slice a0 n c) 20 19 [.slice a0 n c, undef, undef, undef, undef, undef, undef, undef, undef, undef, undef, undef, undef, undef, undef, undef, undef, undef, undef, undef] rfl rfl]
  have hmk := mkI n hn w
  refine Rn.seq (Rn.go ?_)
  go_wp2
  refine exNo_normal (Rn.seq (Rn.go ?_))
  go_wp2
  refine exNo_normal (Rn.seq (Rn.seq (Rn.go ?_)))
  go_wp2
  refine exNo_normal (Rn.block (Rn.loop ?_))
  refine Rn.iter (fun m a w' => ∃ i u5 u12 u13 u14 u15 u16 u17, i + m = n ∧ a = ⟨#[.slice a0 n c, undef, .chan none, .chan (some w.heap.size), undef, u5, .slice a0 n c, .int .i64 n, .chan (some w.heap.size), .slice a0 n c, .int .i64 n, .int .i64 (i : Nat), u12, u13, u14, u15, u16, u17, undef, undef], []⟩ ∧ w' = fillW w n ev i) ?_ n _ _
    ⟨0, _, _, _, _, _, _, _, by omega, rfl, rfl⟩
  rintro m _ _ ⟨i, u5, u12, u13, u14, u15, u16, u17, hi, rfl, rfl⟩ ih
  refine Rn.seq (Rn.go ?_)
  go_wp2
  refine exNo_normal (Rn.seq ?_)
  by_cases hlt : i < n
  · have hd : decide (i < n) = true := by simpa using hlt
    simp only [hd]
    refine Rn.cond (t := true) rfl ?_
    simp only [if_true]
    refine Rn.go ?_
    go_wp2
    refine exNo_normal (Rn.seq (Rn.block (Rn.seq (Rn.go ?_))))
    obtain ⟨q, off, rfl, hq, hci⟩ := hc i hlt
    have hcell : (fillW w n ev i).cell? ⟨q, off + i, none⟩ = some (ev i) := (World.cell?_of_block (w := w) (a := ⟨q, off + i, none⟩) (Below.heap_alloc _ _ _ hq)).trans hci
    go_wp2
    refine exNo_normal (Rn.region' [0, 1, 2] rfl ?_)
    refine Rn.op rfl rfl rfl ?_
    refine Rn.op rfl rfl rfl ?_
    refine Rn.send (c := w.heap.size) (cap := n) (buf := ((List.range i).map ev).toArray) (s := i) (r := 0) (tm := false) (v := ev i) (z := .tuple #[]) (by decide) rfl rfl (by simp [execOp, scase, Act.eval, Act.put]) (heap_alloc_new _ _) (by simpa using hlt) ?_
    rw [show (fillW w n ev i).setChan w.heap.size n (((List.range i).map ev).toArray.push (ev i)) false (i + 1) 0 false = fillW w n ev (i + 1) by
      rw [fillW, setChan_alloc, fillW, List.range_succ, List.map_append]; simp]
    refine Rn.regionEnd (Rn.inBlock (Rn.go ?_))
    simp only [Act.put]
    have hw1 : IntKind.i64.wrap ((i : Int) + 1) = ((i + 1 : Nat) : Int) := by rw [IntKind.wrap_i64]; omega
    go_wp2
    refine exNo_normal (ih (m - 1) _ _ (by omega) ⟨i + 1, _, _, _, _, _, _, _, by omega, rfl, rfl⟩)
  · have hd : decide (i < n) = false := by simpa using hlt
    have hin : i = n := by omega
    subst hin
    simp only [hd]
    refine Rn.cond (t := false) rfl ?_
    simp only [if_false, Bool.false_eq_true]
    refine Rn.exit rfl (Rn.seq (Rn.go ?_))
    have hcl := fun ats ty => run_close_open (P := Tryz.prog) (w := fillW w i ev i) ats ty (heap_alloc_new w _)
    go_wp2
    refine exNo_normal (Rn.seq (Rn.go ?_))
    go_wp2
    refine exNo_normal (Rn.ret rfl rfl Tryz.func62 (by simp [results, Tryz.results62, go_sem]) ⟨rfl, close_alloc w _ _⟩)
set_option maxRecDepth 20000 in
theorem filledL_any {w : World} (a0 : Option Addr) (n c : Nat) (ev : Nat → Value) (hn : n ≤ 5000000) (hc : ∀ i, i < n → ∃ q off, a0 = some ⟨q, off, none⟩ ∧ q < w.heap.size ∧ w.cell? ⟨q, off + i, none⟩ = some (ev i)) :
    Calls Tryz.prog 63 #[.slice a0 n c] w fun e w' => e = .returned (.chan (some w.heap.size)) ∧ w' = w.alloc (.chan n ((List.range n).map ev).toArray true n 0 false) := by
  refine calls_of_rn Tryz.func63 rfl ?_
  rw [Tryz.ntmps63, enter_tmps (.slice a0 n c) 20 19 [.slice a0 n c, undef, undef, undef, undef, undef, undef, undef, undef, undef, undef, undef, undef, undef, undef, undef, undef, undef, undef, undef] rfl rfl]
  have hmk := mkL n hn w
  refine Rn.seq (Rn.go ?_)
  go_wp2
  refine exNo_normal (Rn.seq (Rn.go ?_))
  go_wp2
  refine exNo_normal (Rn.seq (Rn.seq (Rn.go ?_)))
  go_wp2
  refine exNo_normal (Rn.block (Rn.loop ?_))
  refine Rn.iter (fun m a w' => ∃ i u5 u12 u13 u14 u15 u16 u17, i + m = n ∧ a = ⟨#[.slice a0 n c, undef, .chan none, .chan (some w.heap.size), undef, u5, .slice a0 n c, .int .i64 n, .chan (some w.heap.size), .slice a0 n c, .int .i64 n, .int .i64 (i : Nat), u12, u13, u14, u15, u16, u17, undef, undef], []⟩ ∧ w' = fillW w n ev i) ?_ n _ _
    ⟨0, _, _, _, _, _, _, _, by omega, rfl, rfl⟩
  rintro m _ _ ⟨i, u5, u12, u13, u14, u15, u16, u17, hi, rfl, rfl⟩ ih
  refine Rn.seq (Rn.go ?_)
  go_wp2
  refine exNo_normal (Rn.seq ?_)
  by_cases hlt : i < n
  · have hd : decide (i < n) = true := by simpa using hlt
    simp only [hd]
    refine Rn.cond (t := true) rfl ?_
    simp only [if_true]
    refine Rn.go ?_
    go_wp2
    refine exNo_normal (Rn.seq (Rn.block (Rn.seq (Rn.go ?_))))
    obtain ⟨q, off, rfl, hq, hci⟩ := hc i hlt
    have hcell : (fillW w n ev i).cell? ⟨q, off + i, none⟩ = some (ev i) := (World.cell?_of_block (w := w) (a := ⟨q, off + i, none⟩) (Below.heap_alloc _ _ _ hq)).trans hci
    go_wp2
    refine exNo_normal (Rn.region' [0, 1, 2] rfl ?_)
    refine Rn.op rfl rfl rfl ?_
    refine Rn.op rfl rfl rfl ?_
    refine Rn.send (c := w.heap.size) (cap := n) (buf := ((List.range i).map ev).toArray) (s := i) (r := 0) (tm := false) (v := ev i) (z := .tuple #[]) (by decide) rfl rfl (by simp [execOp, scase, Act.eval, Act.put]) (heap_alloc_new _ _) (by simpa using hlt) ?_
    rw [show (fillW w n ev i).setChan w.heap.size n (((List.range i).map ev).toArray.push (ev i)) false (i + 1) 0 false = fillW w n ev (i + 1) by
      rw [fillW, setChan_alloc, fillW, List.range_succ, List.map_append]; simp]
    refine Rn.regionEnd (Rn.inBlock (Rn.go ?_))
    simp only [Act.put]
    have hw1 : IntKind.i64.wrap ((i : Int) + 1) = ((i + 1 : Nat) : Int) := by rw [IntKind.wrap_i64]; omega
    go_wp2
    refine exNo_normal (ih (m - 1) _ _ (by omega) ⟨i + 1, _, _, _, _, _, _, _, by omega, rfl, rfl⟩)
  · have hd : decide (i < n) = false := by simpa using hlt
    have hin : i = n := by omega
    subst hin
    simp only [hd]
    refine Rn.cond (t := false) rfl ?_
    simp only [if_false, Bool.false_eq_true]
    refine Rn.exit rfl (Rn.seq (Rn.go ?_))
    have hcl := fun ats ty => run_close_open (P := Tryz.prog) (w := fillW w i ev i) ats ty (heap_alloc_new w _)
    go_wp2
    refine exNo_normal (Rn.seq (Rn.go ?_))
    go_wp2
    refine exNo_normal (Rn.ret rfl rfl Tryz.func63 (by simp [results, Tryz.results63, go_sem]) ⟨rfl, close_alloc w _ _⟩)
end Go.Proofs.YtfmbebofllgmoaaGreatDoor
namespace Go.Proofs.YtfmbebofllgmoaaGreatDoor
open Go.RowKit
attribute [local go_sem ↓] Go.wp_at_zero Go.wp_at_succ

/-- A writer in memory: its struct at lb, its bytes in a row of its own. -/
structure LogAt (w : World) (lb B : Nat) (v : Value) (b : ByteArray) : Prop where
  cell : w.cell? ⟨lb, 0, none⟩ = some v
  free : w.frozen? ⟨lb, 0, none⟩ = false
  row : OwnB w B v b
  sep : ¬ own v lb
  lt : lb < w.heap.size
def lgS (lb : Nat) (v : Value) (k : Nat) : Prop := k = lb ∨ own v k

/-- In the midst of a record. -/
structure HI (w : World) (lb B : Nat) (v0 : Value) (vb : Value) (bd : ByteArray) (W : World) (v : Value) (b : ByteArray) : Prop where
  log : LogAt W lb B v b
  body : OwnB W w.heap.size vb bd
  sep : ∀ k, own v k → ¬ own vb k
  old : lb < w.heap.size
  fr : Fr (lgS lb v0) w W (lgS lb v)
  bb : B ≤ w.heap.size

theorem HI.next {w : World} {lb B : Nat} {v0 vb : Value} {bd : ByteArray} {W : World} {v : Value} {b : ByteArray} (h : HI w lb B v0 vb bd W v b) {W' : World} {v' : Value} {b' : ByteArray} (hr : OwnB W' B v' b') (hf : Fr (own v) W W' (own v')) :
    HI w lb B v0 vb bd (W'.setCell ⟨lb, 0, none⟩ v') v' b' := by
  have hn : ¬ own v' lb := fun e => h.log.sep (hf.old lb h.log.lt e)
  have hc : W'.cell? ⟨lb, 0, none⟩ = some v := (hf.cell lb 0 h.log.lt h.log.sep).trans h.log.cell
  have hz : (W'.setCell ⟨lb, 0, none⟩ v').heap.size = W'.heap.size := by simp [World.setCell]
  have hvb : ∀ q, own vb q → q < W.heap.size := fun q hq => (h.body.bump q hq).2
  refine ⟨⟨?_, ?_, ?_, hn, by rw [hz]; exact Nat.lt_of_lt_of_le h.log.lt hf.size⟩, ?_, ?_, h.old, ?_, h.bb⟩
  · exact World.cell?_setCell_same' _ _ _ (by rw [hc]; rfl)
  · rw [World.frozen?_setCell]; exact (hf.frozen lb 0 h.log.lt h.log.sep).trans h.log.free
  · exact hr.block fun q hq => Below.heap_setCell _ _ _ _ (by rintro rfl; exact hn hq)
  · refine h.body.block fun q hq => ?_
    have h1 := (h.body.bump q hq)
    have h2 := h.old
    exact (Below.heap_setCell _ _ _ _ (by show q ≠ lb; omega)).trans (hf.same q h1.2 (fun e => h.sep q e hq))
  · intro k hk hb
    exact h.sep k (hf.old k (hvb k hb) hk) hb
  · have h1 : Fr (lgS lb v) W W' (lgS lb v') := ⟨hf.os, hf.tape, hf.output, hf.size, fun k hk hn => hf.same k hk (fun e => hn (.inr e)), fun k hk e => e.elim .inl (fun e => .inr (hf.old k hk e))⟩
    exact (h.fr.trans h1).setCell _ _ (.inl (.inl rfl))

theorem OwnB.cells {w : World} {B g n cap : Nat} {b : ByteArray} (h : OwnB w B (.slice (some ⟨g, 0, none⟩) n cap) b) (h0 : 0 < b.size) : ∀ j u, (u8s b)[j]? = some u → w.cell? ((⟨g, 0, none⟩ : Addr).add j) = some u := by
  obtain ⟨g', cap', e, _, hc⟩ := h.bytes h0
  injection e with e _ _
  injection e with e
  injection e with e _ _
  subst e
  intro j u hj
  rw [addr_add]
  exact hc j u hj
theorem Fr.cell_own {v v' : Value} {w w' : World} (h : Fr (own v) w w' (own v')) {lb B : Nat} {b : ByteArray} (hl : LogAt w lb B v b) : w'.cell? ⟨lb, 0, none⟩ = some v ∧ w'.frozen? ⟨lb, 0, none⟩ = false :=
  ⟨(h.cell lb 0 hl.lt hl.sep).trans hl.cell, (h.frozen lb 0 hl.lt hl.sep).trans hl.free⟩

set_option maxHeartbeats 1000000 in
set_option maxRecDepth 20000 in
/-- An input is written down. -/
theorem wheard_any {w : World} {lb B : Nat} {v : Value} {b bd : ByteArray} (h : LogAt w lb B v b) (hB : B ≤ w.heap.size) (x0 x1 x2 : Value) (a : Option Addr) (l c : Nat) (z0 z1 z2 : Int) (e0 : x0 = .int .i64 z0) (e1 : x1 = .int .i64 z1) (e2 : x2 = .int .i64 z2)
    (hbd : bd.size ≤ 1000) (h0 : 0 < bd.size) (hb : b.size ≤ 800000000)
    (hbody : Calls Tryz.prog 102 #[.agg #[x0, x1, x2, .slice a l c]] (w.alloc (.cells #[x0, x1, x2, .slice a l c] 49)) fun e w' => ∃ v', e = .returned v' ∧ OwnB w' (w.heap.size + 1) v' bd ∧ Fr (fun _ => False) (w.alloc (.cells #[x0, x1, x2, .slice a l c] 49)) w' (fun _ => False)) :
    Calls Tryz.prog 64 #[.pointer (some ⟨lb, 0, none⟩), .agg #[x0, x1, x2, .slice a l c]] w fun e w' => ∃ v', e = .returned (.tuple #[]) ∧ LogAt w' lb B v' (b ++ frameS bd) ∧ Fr (lgS lb v) w w' (lgS lb v') := by
  subst e0 e1 e2
  have hvs := varS_small bd.size (by omega)
  have hstart : ∀ (w1 : World) (vb : Value), OwnB w1 (w.heap.size + 1) vb bd → Fr (fun _ => False) (w.alloc (.cells #[.int .i64 z0, .int .i64 z1, .int .i64 z2, .slice a l c] 49)) w1 (fun _ => False) → HI w lb B v vb bd w1 v b := by
    intro w1 vb ho hf
    have hf' : Fr (fun _ => False) w w1 (fun _ => False) := hf.unalloc
    have hlt := h.lt
    have hbmp := fun k hk => (h.row.bump k hk).2
    refine ⟨⟨(hf'.cell lb 0 hlt (fun h => h)).trans h.cell, (hf'.frozen lb 0 hlt (fun h => h)).trans h.free, h.row.block (fun q hq => hf'.same q (hbmp q hq) (fun h => h)), h.sep, Nat.lt_of_lt_of_le hlt hf'.size⟩, ?_, ?_, hlt, ?_, hB⟩
    · exact ho.low (by omega)
    · intro k hk hkb
      have h1 := hbmp k hk
      have h2 := (ho.bump k hkb).1
      omega
    · exact ⟨hf'.os, hf'.tape, hf'.output, hf'.size, fun k hk _ => hf'.same k hk (fun h => h), fun k hk e => e⟩
  have HB := hide (show b ++ frameS bd = b ++ varS bd.size ++ bd ++ sumS bd by unfold frameS; rw [← ByteArray.append_assoc, ← ByteArray.append_assoc])
  have Z1 := hide (show b.size + (varS bd.size).size ≤ 1000000000 by omega)
  have Z2 := hide (show (b ++ varS bd.size).size + bd.size ≤ 1000000000 by rw [ByteArray.size_append]; omega)
  have Z3 := hide (show (b ++ varS bd.size ++ bd).size ≤ 900000000 by rw [ByteArray.size_append, ByteArray.size_append]; omega)
  have HST := hide hstart
  have HBW := hide hB
  clear hstart h hvs hb
  go_enter Tryz.func64, Tryz.ntmps64
  go_wp2_with (first
    | (go_at_call 102; refine hbody.mono ?_; rintro e w1 ⟨vb, rfl, o1, f1⟩; obtain ⟨g, cap, rfl, _, _⟩ := o1.bytes h0; have hi := unhide HST _ _ o1 f1; have cl := hi.log.cell; have H1 := hide hi; clear o1 f1 hi)
    | (go_at_call 103; refine (appendVarint_any (unhide H1).log.row bd.size (by omega) (unhide Z1) (Nat.le_trans (unhide HBW) (unhide H1).fr.size)).mono ?_; rintro e w2 ⟨v2, rfl, o2, f2⟩; obtain ⟨a2, n2, c2, rfl⟩ := o2.shape; obtain ⟨k1, k2⟩ := f2.cell_own (unhide H1).log; have hi := (unhide H1).next o2 f2; have cl2 := hi.log.cell; have H2 := hide hi; clear o2 f2 hi)
    | (at_builtin; refine wpList_bytes (c := bd) rfl (.tmp 21) (.tmp 22) rfl rfl rfl (unhide H2).log.row ((unhide H2).body.cells h0) h0 (unhide Z2) (Nat.le_trans (unhide HBW) (unhide H2).fr.size) ?_; intro v3 w3 o3 f3; obtain ⟨a3, n3, c3, rfl⟩ := o3.shape; obtain ⟨k3, k4⟩ := f3.cell_own (unhide H2).log; have hi := (unhide H2).next o3 f3; have cl3 := hi.log.cell; have H3 := hide hi; clear o3 f3 hi)
    | (go_at_call 100; refine (appendSum_any (unhide H3).log.row ((unhide H3).body.at h0) (by omega) (unhide Z3) (Nat.le_trans (unhide HBW) (unhide H3).fr.size)).mono ?_; rintro e w4 ⟨v4, rfl, o4, f4⟩; obtain ⟨a4, n4, c4, rfl⟩ := o4.shape; obtain ⟨k5, k6⟩ := f4.cell_own (unhide H3).log; have hi := (unhide H3).next o4 f4; have H4 := hide hi; clear o4 f4 hi))
  refine ⟨rfl, .tuple #[], by simp [results, Tryz.results64, go_sem], ?_⟩
  exact ⟨_, rfl, by rw [unhide HB]; exact (unhide H4).log, (unhide H4).fr⟩
end Go.Proofs.YtfmbebofllgmoaaGreatDoor
namespace Go.Proofs.YtfmbebofllgmoaaGreatDoor
open Go.RowKit
attribute [local go_sem ↓] Go.wp_at_zero Go.wp_at_succ

theorem fold_push (l : List UInt8) : ∀ r : ByteArray, ((l.map fun x => (x.toNat : Int)).foldl (fun r n => r.push (UInt8.ofNat n.toNat)) r) = ⟨r.data ++ l.toArray⟩ := by
  induction l with
  | nil => intro r; apply ByteArray.ext; simp
  | cons x l ih =>
    intro r
    rw [List.map_cons, List.foldl_cons, ih]
    apply ByteArray.ext
    simp
theorem convB {w : World} {g off cap : Nat} {b : ByteArray} (h : ∀ j u, (u8s b)[j]? = some u → w.cell? ((⟨g, off, none⟩ : Addr).add j) = some u) : (convert 54 9 (.slice (some ⟨g, off, none⟩) b.size cap)).run Tryz.prog w = .ok (.string b) w := by
  rw [run_convert_bytes_string w 54 9 5 _ _ _ Tryz.underlying54 Tryz.underlying5 Tryz.underlying9]
  have h1 := run_loadCells_list (P := Tryz.prog) (w := w) ⟨g, off, none⟩ (u8s b) h
  have e : u8s b = (b.data.toList.map fun x => (x.toNat : Int)).map (Value.int .u8) := by simp [u8s]
  rw [u8s_length] at h1
  rw [run_bytesToString w ⟨g, off, none⟩ b.size cap (b.data.toList.map fun x => (x.toNat : Int)) (by rw [h1, e]), fold_push]
  have e2 : (⟨ByteArray.empty.data ++ b.data.toList.toArray⟩ : ByteArray) = b := by apply ByteArray.ext; simp
  rw [e2]

set_option maxHeartbeats 1000000 in
set_option maxRecDepth 20000 in
/-- The last record, and the log. -/
theorem wend_any {w : World} {lb B : Nat} {v : Value} {b : ByteArray} (h : LogAt w lb B v b) (hB : B ≤ w.heap.size) (n : Nat) (hn : n < 1000) (hb : b.size ≤ 800000000) :
    Calls Tryz.prog 38 #[.pointer (some ⟨lb, 0, none⟩), .int .i64 n] w fun e w' => ∃ v', e = .returned (.string (b ++ frameS (bodyS 5 0 n))) ∧ LogAt w' lb B v' (b ++ frameS (bodyS 5 0 n)) ∧ Fr (lgS lb v) w w' (lgS lb v') := by
  have hbs : bodyS 5 0 n = one 5 ++ varS n := by unfold bodyS; rw [if_neg (by omega)]
  have h1s : (one 5).size = 1 := by unfold one; simp
  have hvs := varS_small n (by omega)
  have hsz : (bodyS 5 0 n).size ≤ 1000 := by rw [hbs, ByteArray.size_append]; omega
  have hs0 : 0 < (bodyS 5 0 n).size := by rw [hbs, ByteArray.size_append]; omega
  have hc := wheard_any h hB (.int .i64 5) (.int .i64 0) (.int .i64 n) none 0 0 5 0 n rfl rfl rfl hsz hs0 hb (by
    have := pbody_one 5 0 n (.slice none 0 0) none 0 0 rfl (.inr rfl) (by omega) (w.alloc (.cells #[.int .i64 5, .int .i64 0, .int .i64 n, .slice none 0 0] 49))
    rw [show (w.alloc (.cells #[.int .i64 5, .int .i64 0, .int .i64 n, .slice none 0 0] 49)).heap.size = w.heap.size + 1 by simp] at this
    exact this)
  have hf0 : 0 < (b ++ frameS (bodyS 5 0 n)).size := by
    have := (varS_size (bodyS 5 0 n).size).1
    unfold frameS
    rw [ByteArray.size_append, ByteArray.size_append, ByteArray.size_append]
    omega
  generalize b ++ frameS (bodyS 5 0 n) = R at *
  clear hbs h1s hvs hsz hs0 hb h
  go_enter Tryz.func38, Tryz.ntmps38
  go_wp2_with (go_at_call 64; refine hc.mono ?_; rintro e w1 ⟨v1, rfl, l1, f1⟩; obtain ⟨g, cap, rfl, _, _⟩ := l1.row.bytes hf0; have cl := l1.cell; have hcv := convB (cap := cap) (l1.row.cells hf0); have L1 := hide l1; have F1 := hide f1; clear l1 f1)
  go_ret
  exact ⟨_, rfl, unhide L1, unhide F1⟩

/-- The head of a log. -/
def headS : ByteArray := ((ByteArray.empty.push 82).push 82).push 49
set_option maxRecDepth 20000 in
theorem newWriter_any (w : World) : Calls Tryz.prog 37 #[] w fun e w' => ∃ v, e = .returned (.pointer (some ⟨w.heap.size + 1, 0, none⟩)) ∧ LogAt w' (w.heap.size + 1) w.heap.size v headS ∧ Fr (fun _ => False) w w' (fun _ => False) ∧ (∀ k, own v k → k = w.heap.size) ∧ w'.heap.size = w.heap.size + 2 := by
  have hcv := Go.Lib.run_convert_bytes_const (P := Tryz.prog) w 54 5 #[.int .u8 82, .int .u8 82, .int .u8 49] 3 3 Tryz.underlying54 Tryz.underlying5
  go_enter Tryz.func37, Tryz.ntmps37
  go_wp2
  go_ret
  have z1 : (w.alloc (.cells #[.int .u8 82, .int .u8 82, .int .u8 49] 5 (3, 4))).heap.size = w.heap.size + 1 := by simp
  have hb := heap_alloc_new (w.alloc (.cells #[.int .u8 82, .int .u8 82, .int .u8 49] 5 (3, 4))) (.cells #[.slice (some ⟨w.heap.size, 0, none⟩) 3 3] 149)
  rw [z1] at hb
  have hg : ((w.alloc (.cells #[.int .u8 82, .int .u8 82, .int .u8 49] 5 (3, 4))).alloc (.cells #[.slice (some ⟨w.heap.size, 0, none⟩) 3 3] 149)).heap[w.heap.size]? = some (.cells #[.int .u8 82, .int .u8 82, .int .u8 49] 5 (3, 4)) := (Below.heap_alloc _ _ _ (by rw [z1]; omega)).trans (heap_alloc_new w _)
  refine ⟨.slice (some ⟨w.heap.size, 0, none⟩) 3 3, rfl, ⟨cell_of_row _ _ 0 _ 149 (0, 0) hb, frozen_rowE hb 0, ?_, ?_, by simp⟩, ((Fr.refl _ w).alloc _).alloc _, ?_, by simp⟩
  · refine .inr ⟨w.heap.size, rfl, Nat.le_refl _, by simp; omega, fun j u hj => ?_⟩
    rw [Nat.zero_add, cell_of_row _ _ j _ 5 (3, 4) hg]
    have e : u8s headS = [.int .u8 82, .int .u8 82, .int .u8 49] := by simp [u8s, headS]
    rw [e] at hj
    simpa using hj
  · simp [own, Value.ownBlock]
  · intro k hk
    simp only [own, Value.ownBlock, Option.some.injEq] at hk
    exact hk.symm
end Go.Proofs.YtfmbebofllgmoaaGreatDoor
namespace Go.Proofs.YtfmbebofllgmoaaGreatDoor
open Go.RowKit Go.Conc
attribute [local go_sem ↓] Go.wp_at_zero Go.wp_at_succ

def exRet (Q : Exit → Act → World → Prop) : Exit → Act → World → Prop
  | .ret, a, w => Q .ret a w
  | _, _, _ => False
theorem exRet_ret {Q : Exit → Act → World → Prop} {a : Act} {w : World} (h : Q .ret a w) : exRet Q .ret a w := h
theorem Rn.body {P : Program} {b : Frame} {fn : Func} {R : Ending → World → Prop} {k : List Item} {a : Act} {w : World} {c : Code} (hk : b.kind = .normal) (hf : P.funcs[b.fn]? = some fn) (h : c.wp P (exRet (bodyPost P fn R)) a w) : Rn P b R (.code c :: k) a w :=
  Rn.code (Q := fun _ _ => False) (ret := fun a w => bodyPost P fn R .ret a w) (ex := fun _ _ _ => False) (wp_mono h (fun e a w h => by cases e <;> exact h)) (fun _ _ h => h.elim) (fun _ _ h => ⟨h.1, hk, fn, h.2.choose, hf, h.2.choose_spec.1, h.2.choose_spec.2⟩) (fun _ _ _ h => h.elim)

/-- A closed channel that holds these. -/
def ChanAt (w : World) (c : Nat) (vs : List Value) : Prop := ∃ cap s r, w.heap[c]? = some (.chan cap vs.toArray true s r false)
theorem ChanAt.block {w w' : World} {c : Nat} {vs : List Value} (h : ChanAt w c vs) (hb : w'.heap[c]? = w.heap[c]?) : ChanAt w' c vs := by
  obtain ⟨cap, s, r, e⟩ := h
  exact ⟨cap, s, r, hb.trans e⟩
theorem ChanAt.lt {w : World} {c : Nat} {vs : List Value} (h : ChanAt w c vs) : c < w.heap.size := by
  obtain ⟨cap, s, r, e⟩ := h
  exact (Array.getElem?_eq_some_iff.1 e).1

theorem Fr.setChan (w : World) (c cap : Nat) (buf : Array Value) (cl : Bool) (s r : Nat) (tm : Bool) : Fr (fun k => k = c) w (w.setChan c cap buf cl s r tm) (fun k => k = c) :=
  ⟨rfl, rfl, rfl, by rw [size_setChan]; exact Nat.le_refl _, fun k _ hn => by simp only [World.setChan]; rw [Array.getElem?_setIfInBounds_ne (fun e => hn e.symm)], fun _ _ h => h⟩

/-- A receive from a closed channel. -/
theorem Rn.take {P : Program} {b : Frame} {R : Ending → World → Prop} {k : List Item} {a : Act} {w : World} {ops : Array Oper} {i : Nat} {rest : List Nat} {o : Oper} {c : Nat} {vs : List Value} {z : Value} (hk : b.kind ≠ .early) (ho : ops[i]? = some o) (hw : Region.wanted o (yielded ops a.tmps) = true)
    (hr : (execOp a.eval o).run P w = .ok (.comm #[rcase c z] true (.recv true)) w) (hc : ChanAt w c vs)
    (h : ∀ W, Fr (fun k => k = c) w W (fun k => k = c) → ChanAt W c vs.tail → Rn P b R (.inRegion ops rest :: k) (a.put o.dst (.tuple #[vs.headD z, .bool (!vs.isEmpty)])) W) : Rn P b R (.inRegion ops (i :: rest) :: k) a w := by
  obtain ⟨cap, s, r, hch⟩ := hc
  cases vs with
  | nil => exact Rn.shut true hk ho hw hr hch (h w (Fr.refl _ _) ⟨cap, s, r, hch⟩)
  | cons v vs =>
    refine Rn.recv true hk ho hw hr hch (by simp) ?_
    have := h (w.setChan c cap ((v :: vs).toArray.extract 1 (v :: vs).toArray.size) true s (r + 1) false) (Fr.setChan _ _ _ _ _ _ _ _) ⟨cap, s, r + 1, by
      rw [heap_setChan _ _ _ _ _ _ _ _ (Array.getElem?_eq_some_iff.1 hch).1]
      simp⟩
    simpa [got] using this

theorem Fr.wide {w w' : World} (h : Fr (fun _ => False) w w' (fun _ => False)) (S : Nat → Prop) : Fr S w w' S := ⟨h.os, h.tape, h.output, h.size, fun k hk _ => h.same k hk (fun h => h), fun _ _ h => h⟩
/-- The answer is laid into its new block. -/
theorem outS {S : Nat → Prop} {w W w' : World} (h : Fr S w W S) (h' : Fr (fun _ => False) W w' (fun _ => False)) (v0 v1 v2 v3 : Value) :
    Fr S w ((((w'.setCell ⟨w.heap.size, 0, none⟩ v0).setCell ⟨w.heap.size, 1, none⟩ v1).setCell ⟨w.heap.size, 2, none⟩ v2).setCell ⟨w.heap.size, 3, none⟩ v3) S :=
  ((((h.trans (h'.wide S)).setCell _ _ (.inr (Nat.le_refl _))).setCell _ _ (.inr (Nat.le_refl _))).setCell _ _ (.inr (Nat.le_refl _))).setCell _ _ (.inr (Nat.le_refl _))
theorem outC {S : Nat → Prop} {w W w' : World} {c : Nat} {vs : List Value} (_ : Fr S w W S) (h' : Fr (fun _ => False) W w' (fun _ => False)) (hc : ChanAt W c vs) (hn : w.heap.size ≠ c) (v0 v1 v2 v3 : Value) :
    ChanAt ((((w'.setCell ⟨w.heap.size, 0, none⟩ v0).setCell ⟨w.heap.size, 1, none⟩ v1).setCell ⟨w.heap.size, 2, none⟩ v2).setCell ⟨w.heap.size, 3, none⟩ v3) c vs :=
  hc.block ((((Below.heap_setCell _ _ _ _ (Ne.symm hn)).trans (Below.heap_setCell _ _ _ _ (Ne.symm hn))).trans (Below.heap_setCell _ _ _ _ (Ne.symm hn))).trans ((Below.heap_setCell _ _ _ _ (Ne.symm hn)).trans (h'.same c hc.lt (fun h => h))))

theorem u95 (x y z : Value) : (#[x, y, z] ++ Array.replicate (95 - (#[x, y, z] : Array Value).size) undef) = (x :: y :: z :: List.replicate 92 undef).toArray := by simp

set_option maxRecDepth 100000 in
set_option maxHeartbeats 2000000 in
theorem hearS_clock {w : World} {sb c0 : Nat} (hs : w.cell? ⟨sb, 0, none⟩ = some (.chan (some c0))) (hsb : sb < w.heap.size) (hne : sb ≠ c0) (l : List Int) (hc : ChanAt w c0 (l.map (.int .i64))) (o : Int) {R : Ending → World → Prop}
    (hR : ∀ w', Fr (fun k => k = c0) w w' (fun k => k = c0) → ChanAt w' c0 (l.tail.map (.int .i64)) → R (.returned (.tuple #[if !l.isEmpty then .agg #[.int .i64 1, .int .i64 0, .int .i64 (min (max (l.headD 0) 0) 1099511627776), .slice none 0 0] else .agg #[.int .i64 0, .int .i64 0, .int .i64 0, .slice none 0 0], .int .i64 (if !l.isEmpty then 0 else 5)])) w') :
    Calls Tryz.prog 182 #[.pointer (some ⟨sb, 0, none⟩), .int .i64 1, .int .i64 o] w R := by
  have HR := hide hR
  clear hR
  refine calls_of_rn Tryz.func182 rfl ?_
  rw [Tryz.ntmps182, u95]
  simp only [List.replicate]
  have h161 := fun k o n => heard_any k o n (.slice none 0 0) none 0 0 rfl
  have hf1 := (Fr.refl (fun k => k = c0) w).alloc (.cells #[.int .i64 0, .int .i64 0, .int .i64 0, .slice none 0 0] 49)
  have hs1 : (w.alloc (.cells #[.int .i64 0, .int .i64 0, .int .i64 0, .slice none 0 0] 49)).cell? ⟨sb, 0, none⟩ = some (.chan (some c0)) := (hf1.cell sb 0 hsb hne).trans hs
  have hc1 : ChanAt (w.alloc (.cells #[.int .i64 0, .int .i64 0, .int .i64 0, .slice none 0 0] 49)) c0 (l.map (.int .i64)) := hc.block (Below.heap_alloc _ _ _ hc.lt)
  have hrow := heap_alloc_new w (.cells #[.int .i64 0, .int .i64 0, .int .i64 0, .slice none 0 0] 49)
  have hw1 : w.heap.size ≠ c0 := by have := hc.lt; omega
  have hz1 : w.heap.size < (w.alloc (.cells #[.int .i64 0, .int .i64 0, .int .i64 0, .slice none 0 0] 49)).heap.size := by simp
  have H161 := hide h161
  have HF1 := hide hf1
  have HROW := hide hrow
  have HC1 := hide hc1
  clear h161 hf1 hrow hc1 hc hs
  refine Rn.seq (Rn.go ?_)
  go_wp2
  generalize hW : w.alloc (.cells #[.int .i64 0, .int .i64 0, .int .i64 0, .slice none 0 0] 49) = W1 at *
  clear hW
  refine exNo_normal (Rn.seq (Rn.seq (Rn.go ?_)))
  go_wp2
  refine exNo_normal (Rn.block (Rn.seq (Rn.go ?_)))
  go_wp2
  refine exNo_normal (Rn.cond (t := true) rfl ?_)
  simp only [if_true]
  refine Rn.seq (Rn.region' [0, 1, 2, 3, 4, 5, 6, 7, 8, 9] rfl ?_)
  refine Rn.op rfl rfl rfl ?_
  refine Rn.op rfl rfl rfl ?_
  refine Rn.op rfl rfl rfl ?_
  refine Rn.op (v := .chan (some c0)) (w' := W1) rfl rfl ?_ ?_
  · simp [execOp, Act.eval, Act.put, go_sem, hs1]
  refine Rn.take (c := c0) (z := .int .i64 0) (vs := l.map (.int .i64)) (by decide) rfl rfl ?_ (unhide HC1) ?_
  · simp [execOp, Act.eval, Act.put, go_sem, rcase]
  intro W2 f2 c2
  have e1 : (l.map (Value.int .i64)).headD (.int .i64 0) = .int .i64 (l.headD 0) := by cases l <;> rfl
  have e2 : (l.map (Value.int .i64)).isEmpty = l.isEmpty := by cases l <;> rfl
  have e3 : (l.map (Value.int .i64)).tail = l.tail.map (Value.int .i64) := by cases l <;> rfl
  rw [e1, e2]
  rw [e3] at c2
  have C2 := hide c2
  have F2 := hide ((unhide HF1).trans f2)
  have HR2 := hide ((f2.same w.heap.size hz1 hw1).trans (unhide HROW))
  have hz2 := Nat.lt_of_lt_of_le hz1 f2.size
  clear e1 e2 e3 c2 f2 HC1 HROW HF1 hs1
  generalize (!l.isEmpty) = ok at *
  generalize l.headD 0 = n at *
  simp only [Act.put]
  refine Rn.op (v := .tuple #[.int .i64 n, .bool ok]) (w' := W2) rfl rfl (by simp [execOp, Act.eval, go_sem]) ?_
  simp only [Act.put]
  refine Rn.op (v := .int .i64 n) (w' := W2) rfl rfl (by simp [execOp, Act.eval, go_sem]) ?_
  simp only [Act.put]
  refine Rn.op (v := .bool ok) (w' := W2) rfl rfl (by simp [execOp, Act.eval, go_sem]) ?_
  simp only [Act.put]
  refine Rn.op (v := .int .i64 n) (w' := W2) rfl rfl (by simp [execOp, Act.eval, go_sem]) ?_
  simp only [Act.put]
  refine Rn.op (v := .bool ok) (w' := W2) rfl rfl (by simp [execOp, Act.eval, go_sem]) ?_
  simp only [Act.put]
  refine Rn.regionEnd (Rn.body rfl Tryz.func182 ?_)
  cases ok
  · go_wp2_with (go_at_call 183; refine (unhide H161 _ _ _ _ _).mono ?_; rintro e w3 ⟨rfl, f3⟩; have hrow := (f3.same _ hz2 (fun h => h)).trans (unhide HR2); have hcell := fun j => cell_of_row w3 w.heap.size j _ 49 (0, 0) hrow; have hfz := fun j => frozen_rowE hrow j; have F3 := hide f3; clear f3 hrow)
    refine exRet_ret (bodyPost_ret (v := .tuple #[.agg #[.int .i64 0, .int .i64 0, .int .i64 0, .slice none 0 0], .int .i64 5]) (by simp [results, Tryz.results182, go_sem, hcell]) rfl ?_)
    exact unhide HR _ (outS (unhide F2) (unhide F3) _ _ _ _) (outC (unhide F2) (unhide F3) (unhide C2) hw1 _ _ _ _)
  · go_wp2_with (go_at_call 183; refine (unhide H161 _ _ _ _ _).mono ?_; rintro e w3 ⟨rfl, f3⟩; have hrow := (f3.same _ hz2 (fun h => h)).trans (unhide HR2); have hcell := fun j => cell_of_row w3 w.heap.size j _ 49 (0, 0) hrow; have hfz := fun j => frozen_rowE hrow j; have F3 := hide f3; clear f3 hrow)
    refine exRet_ret (bodyPost_ret (v := .tuple #[.agg #[.int .i64 1, .int .i64 0, .int .i64 (min (max n 0) 1099511627776), .slice none 0 0], .int .i64 0]) (by simp [results, Tryz.results182, go_sem, hcell]) rfl ?_)
    exact unhide HR _ (outS (unhide F2) (unhide F3) _ _ _ _) (outC (unhide F2) (unhide F3) (unhide C2) hw1 _ _ _ _)
set_option maxRecDepth 100000 in
set_option maxHeartbeats 2000000 in
theorem hearS_pick {w : World} {sb c0 : Nat} (hs : w.cell? ⟨sb, 2, none⟩ = some (.chan (some c0))) (hsb : sb < w.heap.size) (hne : sb ≠ c0) (l : List Int) (hc : ChanAt w c0 (l.map (.int .i64))) (o : Int) (ho1 : 1 ≤ o) (ho2 : o ≤ 1000000) {R : Ending → World → Prop}
    (hR : ∀ w', Fr (fun k => k = c0) w w' (fun k => k = c0) → ChanAt w' c0 (l.tail.map (.int .i64)) → R (.returned (.tuple #[if !l.isEmpty then .agg #[.int .i64 3, .int .i64 o, .int .i64 (l.headD 0 % o), .slice none 0 0] else .agg #[.int .i64 0, .int .i64 0, .int .i64 0, .slice none 0 0], .int .i64 (if !l.isEmpty then 0 else 5)])) w') :
    Calls Tryz.prog 182 #[.pointer (some ⟨sb, 0, none⟩), .int .i64 3, .int .i64 o] w R := by
  have HR := hide hR
  clear hR
  refine calls_of_rn Tryz.func182 rfl ?_
  rw [Tryz.ntmps182, u95]
  simp only [List.replicate]
  have h161 := fun k o n => heard_any k o n (.slice none 0 0) none 0 0 rfl
  have hf1 := (Fr.refl (fun k => k = c0) w).alloc (.cells #[.int .i64 0, .int .i64 0, .int .i64 0, .slice none 0 0] 49)
  have hs1 : (w.alloc (.cells #[.int .i64 0, .int .i64 0, .int .i64 0, .slice none 0 0] 49)).cell? ⟨sb, 2, none⟩ = some (.chan (some c0)) := (hf1.cell sb 2 hsb hne).trans hs
  have hc1 : ChanAt (w.alloc (.cells #[.int .i64 0, .int .i64 0, .int .i64 0, .slice none 0 0] 49)) c0 (l.map (.int .i64)) := hc.block (Below.heap_alloc _ _ _ hc.lt)
  have hrow := heap_alloc_new w (.cells #[.int .i64 0, .int .i64 0, .int .i64 0, .slice none 0 0] 49)
  have hw1 : w.heap.size ≠ c0 := by have := hc.lt; omega
  have hz1 : w.heap.size < (w.alloc (.cells #[.int .i64 0, .int .i64 0, .int .i64 0, .slice none 0 0] 49)).heap.size := by simp
  have H161 := hide h161
  have H163 := hide (fun n w => modulo_any n o w ho1 ho2)
  have HF1 := hide hf1
  have HROW := hide hrow
  have HC1 := hide hc1
  clear h161 hf1 hrow hc1 hc hs
  refine Rn.seq (Rn.go ?_)
  go_wp2
  generalize hW : w.alloc (.cells #[.int .i64 0, .int .i64 0, .int .i64 0, .slice none 0 0] 49) = W1 at *
  clear hW
  refine exNo_normal (Rn.seq (Rn.seq (Rn.go ?_)))
  go_wp2
  refine exNo_normal (Rn.block (Rn.seq (Rn.go ?_)))
  go_wp2
  refine exNo_normal (Rn.cond (t := false) rfl ?_)
  simp only [if_false, Bool.false_eq_true]
  refine Rn.seq (Rn.go ?_)
  go_wp2
  refine exNo_normal (Rn.cond (t := false) rfl ?_)
  simp only [if_false, Bool.false_eq_true]
  refine Rn.seq (Rn.go ?_)
  go_wp2
  refine exNo_normal (Rn.cond (t := true) rfl ?_)
  simp only [if_true]
  refine Rn.seq (Rn.region' [0, 1, 2, 3, 4, 5, 6, 7, 8, 9] rfl ?_)
  refine Rn.op rfl rfl rfl ?_
  refine Rn.op rfl rfl rfl ?_
  refine Rn.op rfl rfl rfl ?_
  refine Rn.op (v := .chan (some c0)) (w' := W1) rfl rfl ?_ ?_
  · simp [execOp, Act.eval, Act.put, go_sem, hs1]
  refine Rn.take (c := c0) (z := .int .i64 0) (vs := l.map (.int .i64)) (by decide) rfl rfl ?_ (unhide HC1) ?_
  · simp [execOp, Act.eval, Act.put, go_sem, rcase]
  intro W2 f2 c2
  have e1 : (l.map (Value.int .i64)).headD (.int .i64 0) = .int .i64 (l.headD 0) := by cases l <;> rfl
  have e2 : (l.map (Value.int .i64)).isEmpty = l.isEmpty := by cases l <;> rfl
  have e3 : (l.map (Value.int .i64)).tail = l.tail.map (Value.int .i64) := by cases l <;> rfl
  rw [e1, e2]
  rw [e3] at c2
  have C2 := hide c2
  have F2 := hide ((unhide HF1).trans f2)
  have HR2 := hide ((f2.same w.heap.size hz1 hw1).trans (unhide HROW))
  have hz2 := Nat.lt_of_lt_of_le hz1 f2.size
  clear e1 e2 e3 c2 f2 HC1 HROW HF1 hs1
  generalize (!l.isEmpty) = ok at *
  generalize l.headD 0 = n at *
  simp only [Act.put]
  refine Rn.op (v := .tuple #[.int .i64 n, .bool ok]) (w' := W2) rfl rfl (by simp [execOp, Act.eval, go_sem]) ?_
  simp only [Act.put]
  refine Rn.op (v := .int .i64 n) (w' := W2) rfl rfl (by simp [execOp, Act.eval, go_sem]) ?_
  simp only [Act.put]
  refine Rn.op (v := .bool ok) (w' := W2) rfl rfl (by simp [execOp, Act.eval, go_sem]) ?_
  simp only [Act.put]
  refine Rn.op (v := .int .i64 n) (w' := W2) rfl rfl (by simp [execOp, Act.eval, go_sem]) ?_
  simp only [Act.put]
  refine Rn.op (v := .bool ok) (w' := W2) rfl rfl (by simp [execOp, Act.eval, go_sem]) ?_
  simp only [Act.put]
  refine Rn.regionEnd (Rn.body rfl Tryz.func182 ?_)
  cases ok
  · go_wp2_with (first | (go_at_call 185; refine (unhide H163 _ _).mono ?_; rintro e w3 ⟨rfl, rfl⟩) | (go_at_call 183; refine (unhide H161 _ _ _ _ _).mono ?_; rintro e w3 ⟨rfl, f3⟩; have hrow := (f3.same _ hz2 (fun h => h)).trans (unhide HR2); have hcell := fun j => cell_of_row w3 w.heap.size j _ 49 (0, 0) hrow; have hfz := fun j => frozen_rowE hrow j; have F3 := hide f3; clear f3 hrow))
    refine exRet_ret (bodyPost_ret (v := .tuple #[.agg #[.int .i64 0, .int .i64 0, .int .i64 0, .slice none 0 0], .int .i64 5]) (by simp [results, Tryz.results182, go_sem, hcell]) rfl ?_)
    exact unhide HR _ (outS (unhide F2) (unhide F3) _ _ _ _) (outC (unhide F2) (unhide F3) (unhide C2) hw1 _ _ _ _)
  · go_wp2_with (first | (go_at_call 185; refine (unhide H163 _ _).mono ?_; rintro e w3 ⟨rfl, rfl⟩) | (go_at_call 183; refine (unhide H161 _ _ _ _ _).mono ?_; rintro e w3 ⟨rfl, f3⟩; have hrow := (f3.same _ hz2 (fun h => h)).trans (unhide HR2); have hcell := fun j => cell_of_row w3 w.heap.size j _ 49 (0, 0) hrow; have hfz := fun j => frozen_rowE hrow j; have F3 := hide f3; clear f3 hrow))
    refine exRet_ret (bodyPost_ret (v := .tuple #[.agg #[.int .i64 3, .int .i64 o, .int .i64 (n % o), .slice none 0 0], .int .i64 0]) (by simp [results, Tryz.results182, go_sem, hcell]) rfl ?_)
    exact unhide HR _ (outS (unhide F2) (unhide F3) _ _ _ _) (outC (unhide F2) (unhide F3) (unhide C2) hw1 _ _ _ _)
set_option maxRecDepth 100000 in
set_option maxHeartbeats 2000000 in
theorem hearS_lot {w : World} {sb c0 : Nat} (hs : w.cell? ⟨sb, 3, none⟩ = some (.chan (some c0))) (hsb : sb < w.heap.size) (hne : sb ≠ c0) (l : List Int) (hc : ChanAt w c0 (l.map (.int .i64))) (o : Int) (ho1 : 1 ≤ o) (ho2 : o ≤ 1000000) {R : Ending → World → Prop}
    (hR : ∀ w', Fr (fun k => k = c0) w w' (fun k => k = c0) → ChanAt w' c0 (l.tail.map (.int .i64)) → R (.returned (.tuple #[if !l.isEmpty then .agg #[.int .i64 4, .int .i64 o, .int .i64 (l.headD 0 % o), .slice none 0 0] else .agg #[.int .i64 0, .int .i64 0, .int .i64 0, .slice none 0 0], .int .i64 (if !l.isEmpty then 0 else 5)])) w') :
    Calls Tryz.prog 182 #[.pointer (some ⟨sb, 0, none⟩), .int .i64 4, .int .i64 o] w R := by
  have HR := hide hR
  clear hR
  refine calls_of_rn Tryz.func182 rfl ?_
  rw [Tryz.ntmps182, u95]
  simp only [List.replicate]
  have h161 := fun k o n => heard_any k o n (.slice none 0 0) none 0 0 rfl
  have hf1 := (Fr.refl (fun k => k = c0) w).alloc (.cells #[.int .i64 0, .int .i64 0, .int .i64 0, .slice none 0 0] 49)
  have hs1 : (w.alloc (.cells #[.int .i64 0, .int .i64 0, .int .i64 0, .slice none 0 0] 49)).cell? ⟨sb, 3, none⟩ = some (.chan (some c0)) := (hf1.cell sb 3 hsb hne).trans hs
  have hc1 : ChanAt (w.alloc (.cells #[.int .i64 0, .int .i64 0, .int .i64 0, .slice none 0 0] 49)) c0 (l.map (.int .i64)) := hc.block (Below.heap_alloc _ _ _ hc.lt)
  have hrow := heap_alloc_new w (.cells #[.int .i64 0, .int .i64 0, .int .i64 0, .slice none 0 0] 49)
  have hw1 : w.heap.size ≠ c0 := by have := hc.lt; omega
  have hz1 : w.heap.size < (w.alloc (.cells #[.int .i64 0, .int .i64 0, .int .i64 0, .slice none 0 0] 49)).heap.size := by simp
  have H161 := hide h161
  have H163 := hide (fun n w => modulo_any n o w ho1 ho2)
  have HF1 := hide hf1
  have HROW := hide hrow
  have HC1 := hide hc1
  clear h161 hf1 hrow hc1 hc hs
  refine Rn.seq (Rn.go ?_)
  go_wp2
  generalize hW : w.alloc (.cells #[.int .i64 0, .int .i64 0, .int .i64 0, .slice none 0 0] 49) = W1 at *
  clear hW
  refine exNo_normal (Rn.seq (Rn.seq (Rn.go ?_)))
  go_wp2
  refine exNo_normal (Rn.block (Rn.seq (Rn.go ?_)))
  go_wp2
  refine exNo_normal (Rn.cond (t := false) rfl ?_)
  simp only [if_false, Bool.false_eq_true]
  refine Rn.seq (Rn.go ?_)
  go_wp2
  refine exNo_normal (Rn.cond (t := false) rfl ?_)
  simp only [if_false, Bool.false_eq_true]
  refine Rn.seq (Rn.go ?_)
  go_wp2
  refine exNo_normal (Rn.cond (t := false) rfl ?_)
  simp only [if_false, Bool.false_eq_true]
  refine Rn.seq (Rn.go ?_)
  go_wp2
  refine exNo_normal (Rn.cond (t := true) rfl ?_)
  simp only [if_true]
  refine Rn.seq (Rn.region' [0, 1, 2, 3, 4, 5, 6, 7, 8, 9] rfl ?_)
  refine Rn.op rfl rfl rfl ?_
  refine Rn.op rfl rfl rfl ?_
  refine Rn.op rfl rfl rfl ?_
  refine Rn.op (v := .chan (some c0)) (w' := W1) rfl rfl ?_ ?_
  · simp [execOp, Act.eval, Act.put, go_sem, hs1]
  refine Rn.take (c := c0) (z := .int .i64 0) (vs := l.map (.int .i64)) (by decide) rfl rfl ?_ (unhide HC1) ?_
  · simp [execOp, Act.eval, Act.put, go_sem, rcase]
  intro W2 f2 c2
  have e1 : (l.map (Value.int .i64)).headD (.int .i64 0) = .int .i64 (l.headD 0) := by cases l <;> rfl
  have e2 : (l.map (Value.int .i64)).isEmpty = l.isEmpty := by cases l <;> rfl
  have e3 : (l.map (Value.int .i64)).tail = l.tail.map (Value.int .i64) := by cases l <;> rfl
  rw [e1, e2]
  rw [e3] at c2
  have C2 := hide c2
  have F2 := hide ((unhide HF1).trans f2)
  have HR2 := hide ((f2.same w.heap.size hz1 hw1).trans (unhide HROW))
  have hz2 := Nat.lt_of_lt_of_le hz1 f2.size
  clear e1 e2 e3 c2 f2 HC1 HROW HF1 hs1
  generalize (!l.isEmpty) = ok at *
  generalize l.headD 0 = n at *
  simp only [Act.put]
  refine Rn.op (v := .tuple #[.int .i64 n, .bool ok]) (w' := W2) rfl rfl (by simp [execOp, Act.eval, go_sem]) ?_
  simp only [Act.put]
  refine Rn.op (v := .int .i64 n) (w' := W2) rfl rfl (by simp [execOp, Act.eval, go_sem]) ?_
  simp only [Act.put]
  refine Rn.op (v := .bool ok) (w' := W2) rfl rfl (by simp [execOp, Act.eval, go_sem]) ?_
  simp only [Act.put]
  refine Rn.op (v := .int .i64 n) (w' := W2) rfl rfl (by simp [execOp, Act.eval, go_sem]) ?_
  simp only [Act.put]
  refine Rn.op (v := .bool ok) (w' := W2) rfl rfl (by simp [execOp, Act.eval, go_sem]) ?_
  simp only [Act.put]
  refine Rn.regionEnd (Rn.body rfl Tryz.func182 ?_)
  cases ok
  · go_wp2_with (first | (go_at_call 185; refine (unhide H163 _ _).mono ?_; rintro e w3 ⟨rfl, rfl⟩) | (go_at_call 183; refine (unhide H161 _ _ _ _ _).mono ?_; rintro e w3 ⟨rfl, f3⟩; have hrow := (f3.same _ hz2 (fun h => h)).trans (unhide HR2); have hcell := fun j => cell_of_row w3 w.heap.size j _ 49 (0, 0) hrow; have hfz := fun j => frozen_rowE hrow j; have F3 := hide f3; clear f3 hrow))
    refine exRet_ret (bodyPost_ret (v := .tuple #[.agg #[.int .i64 0, .int .i64 0, .int .i64 0, .slice none 0 0], .int .i64 5]) (by simp [results, Tryz.results182, go_sem, hcell]) rfl ?_)
    exact unhide HR _ (outS (unhide F2) (unhide F3) _ _ _ _) (outC (unhide F2) (unhide F3) (unhide C2) hw1 _ _ _ _)
  · go_wp2_with (first | (go_at_call 185; refine (unhide H163 _ _).mono ?_; rintro e w3 ⟨rfl, rfl⟩) | (go_at_call 183; refine (unhide H161 _ _ _ _ _).mono ?_; rintro e w3 ⟨rfl, f3⟩; have hrow := (f3.same _ hz2 (fun h => h)).trans (unhide HR2); have hcell := fun j => cell_of_row w3 w.heap.size j _ 49 (0, 0) hrow; have hfz := fun j => frozen_rowE hrow j; have F3 := hide f3; clear f3 hrow))
    refine exRet_ret (bodyPost_ret (v := .tuple #[.agg #[.int .i64 4, .int .i64 o, .int .i64 (n % o), .slice none 0 0], .int .i64 0]) (by simp [results, Tryz.results182, go_sem, hcell]) rfl ?_)
    exact unhide HR _ (outS (unhide F2) (unhide F3) _ _ _ _) (outC (unhide F2) (unhide F3) (unhide C2) hw1 _ _ _ _)
theorem ownI_shape {w : World} {B : Nat} {v : Value} {l : List Int} (h : OwnI w B v l) : ∃ a n c, v = .slice a n c := by
  rcases h.2 with ⟨h1, _⟩ | ⟨g, cap, cur, hv, _⟩
  · exact ⟨_, _, _, h1⟩
  · exact ⟨_, _, _, hv⟩
set_option maxRecDepth 100000 in
set_option maxHeartbeats 2000000 in
theorem hearS_batch {w : World} {sb c0 : Nat} (hs : w.cell? ⟨sb, 1, none⟩ = some (.chan (some c0))) (hsb : sb < w.heap.size) (hne : sb ≠ c0) (bs : List (Value × List Int)) (hc : ChanAt w c0 (bs.map (·.1))) (hin : ∀ p, p ∈ bs → IntsIn w p.1 p.2 (fun q => q < w.heap.size ∧ q ≠ c0) ∧ p.2.length ≤ 100000000) (o : Int) {R : Ending → World → Prop}
    (hR : ∀ w' fv, Fr (fun k => k = c0) w w' (fun k => k = c0) → ChanAt w' c0 (bs.tail.map (·.1)) → (bs ≠ [] → OwnI w' (w.heap.size + 1) fv (filesL (bs.headD (.slice none 0 0, [])).2)) → R (.returned (.tuple #[if !bs.isEmpty then .agg #[.int .i64 2, .int .i64 0, .int .i64 0, fv] else .agg #[.int .i64 0, .int .i64 0, .int .i64 0, .slice none 0 0], .int .i64 (if !bs.isEmpty then 0 else 5)])) w') :
    Calls Tryz.prog 182 #[.pointer (some ⟨sb, 0, none⟩), .int .i64 2, .int .i64 o] w R := by
  have HR := hide hR
  clear hR
  refine calls_of_rn Tryz.func182 rfl ?_
  rw [Tryz.ntmps182, u95]
  simp only [List.replicate]
  have h161 := fun k o n a l c => heard_any k o n (.slice a l c) a l c rfl
  have hf1 := (Fr.refl (fun k => k = c0) w).alloc (.cells #[.int .i64 0, .int .i64 0, .int .i64 0, .slice none 0 0] 49)
  have hs1 : (w.alloc (.cells #[.int .i64 0, .int .i64 0, .int .i64 0, .slice none 0 0] 49)).cell? ⟨sb, 1, none⟩ = some (.chan (some c0)) := (hf1.cell sb 1 hsb hne).trans hs
  have hc1 : ChanAt (w.alloc (.cells #[.int .i64 0, .int .i64 0, .int .i64 0, .slice none 0 0] 49)) c0 (bs.map (·.1)) := hc.block (Below.heap_alloc _ _ _ hc.lt)
  have hrow := heap_alloc_new w (.cells #[.int .i64 0, .int .i64 0, .int .i64 0, .slice none 0 0] 49)
  have hw1 : w.heap.size ≠ c0 := by have := hc.lt; omega
  have hz1 : w.heap.size < (w.alloc (.cells #[.int .i64 0, .int .i64 0, .int .i64 0, .slice none 0 0] 49)).heap.size := by simp
  have H161 := hide h161
  have HIN := hide hin
  have HF1 := hide hf1
  have HROW := hide hrow
  have HC1 := hide hc1
  clear h161 hf1 hrow hc1 hc hs hin
  refine Rn.seq (Rn.go ?_)
  go_wp2
  generalize hW : w.alloc (.cells #[.int .i64 0, .int .i64 0, .int .i64 0, .slice none 0 0] 49) = W1 at *
  clear hW
  refine exNo_normal (Rn.seq (Rn.seq (Rn.go ?_)))
  go_wp2
  refine exNo_normal (Rn.block (Rn.seq (Rn.go ?_)))
  go_wp2
  refine exNo_normal (Rn.cond (t := false) rfl ?_)
  simp only [if_false, Bool.false_eq_true]
  refine Rn.seq (Rn.go ?_)
  go_wp2
  refine exNo_normal (Rn.cond (t := true) rfl ?_)
  simp only [if_true]
  refine Rn.seq (Rn.region' [0, 1, 2, 3, 4, 5, 6, 7, 8, 9] rfl ?_)
  refine Rn.op rfl rfl rfl ?_
  refine Rn.op rfl rfl rfl ?_
  refine Rn.op rfl rfl rfl ?_
  refine Rn.op (v := .chan (some c0)) (w' := W1) rfl rfl ?_ ?_
  · simp [execOp, Act.eval, Act.put, go_sem, hs1]
  refine Rn.take (c := c0) (z := .slice none 0 0) (vs := bs.map (·.1)) (by decide) rfl rfl ?_ (unhide HC1) ?_
  · simp [execOp, Act.eval, Act.put, go_sem, rcase]
  intro W2 f2 c2
  have hI : IntsIn W2 (bs.headD (.slice none 0 0, [])).1 (bs.headD (.slice none 0 0, [])).2 (fun q => q < W2.heap.size) ∧ (bs.headD (.slice none 0 0, [])).2.length ≤ 100000000 := by
    cases bs with
    | nil => exact ⟨⟨none, 0, rfl, .inl rfl⟩, by simp⟩
    | cons p r =>
      obtain ⟨⟨a, c, ha, hq⟩, hl⟩ := unhide HIN p (List.mem_cons_self ..)
      refine ⟨⟨a, c, ha, hq.imp id fun ⟨q, off, h1, h2, h3⟩ => ⟨q, off, h1, ?_, fun i hi => ?_⟩⟩, hl⟩
      · exact Nat.lt_of_lt_of_le h2.1 (Nat.le_trans (unhide HF1).size f2.size)
      · exact (((unhide HF1).trans f2).cell q (off + i) h2.1 h2.2).trans (h3 i hi)
  have e1 : (bs.map (·.1)).headD (.slice none 0 0) = (bs.headD (.slice none 0 0, [])).1 := by cases bs <;> rfl
  have e2 : (bs.map (·.1)).isEmpty = bs.isEmpty := by cases bs <;> rfl
  have e3 : (bs.map (·.1)).tail = bs.tail.map (·.1) := by cases bs <;> rfl
  have e4 : (!bs.isEmpty) = false → bs = [] := by cases bs <;> simp
  rw [e1, e2]
  rw [e3] at c2
  have C2 := hide c2
  have F2 := hide ((unhide HF1).trans f2)
  have HR2 := hide ((f2.same w.heap.size hz1 hw1).trans (unhide HROW))
  have hz2 := Nat.lt_of_lt_of_le hz1 f2.size
  have H162 := hide (files_any (fun q h => h) hI.1 hI.2)
  obtain ⟨⟨fa, fc, hfv, _⟩, _⟩ := hI
  have E4 := hide e4
  clear e1 e2 e3 e4 c2 f2 HC1 HROW HF1 hs1 HIN
  generalize hok : (!bs.isEmpty) = ok at *
  have HOK := hide hok
  clear hok
  generalize hp : bs.headD (.slice none 0 0, []) = p at *
  clear hp
  obtain ⟨pv, l⟩ := p
  simp only at hfv H162 HR
  subst hfv
  simp only [Act.put]
  refine Rn.op (v := .tuple #[.slice fa l.length fc, .bool ok]) (w' := W2) rfl rfl (by simp [execOp, Act.eval, go_sem]) ?_
  simp only [Act.put]
  refine Rn.op (v := .slice fa l.length fc) (w' := W2) rfl rfl (by simp [execOp, Act.eval, go_sem]) ?_
  simp only [Act.put]
  refine Rn.op (v := .bool ok) (w' := W2) rfl rfl (by simp [execOp, Act.eval, go_sem]) ?_
  simp only [Act.put]
  refine Rn.op (v := .slice fa l.length fc) (w' := W2) rfl rfl (by simp [execOp, Act.eval, go_sem]) ?_
  simp only [Act.put]
  refine Rn.op (v := .bool ok) (w' := W2) rfl rfl (by simp [execOp, Act.eval, go_sem]) ?_
  simp only [Act.put]
  refine Rn.regionEnd (Rn.body rfl Tryz.func182 ?_)
  cases ok
  · go_wp2_with (first
      | (go_at_call 184; refine (unhide H162).mono ?_; rintro e w4 ⟨v4, rfl, o4, f4⟩; obtain ⟨a4, n4, c4, rfl⟩ := ownI_shape o4; have F4 := hide f4; clear f4)
      | (go_at_call 183; refine (unhide H161 _ _ _ _ _ _ _ _).mono ?_; rintro e w3 ⟨rfl, f3⟩; have f5 := (unhide F4).trans f3; have hrow := (f5.same _ hz2 (fun h => h)).trans (unhide HR2); have hcell := fun j => cell_of_row w3 w.heap.size j _ 49 (0, 0) hrow; have hfz := fun j => frozen_rowE hrow j; have F3 := hide f5; clear f3 f5 hrow))
    refine exRet_ret (bodyPost_ret (v := .tuple #[.agg #[.int .i64 0, .int .i64 0, .int .i64 0, .slice none 0 0], .int .i64 5]) (by simp [results, Tryz.results182, go_sem, hcell]) rfl ?_)
    exact unhide HR _ (.slice none 0 0) (outS (unhide F2) (unhide F3) _ _ _ _) (outC (unhide F2) (unhide F3) (unhide C2) hw1 _ _ _ _) (fun h => absurd (unhide E4 trivial) h)
  · go_wp2_with (first
      | (go_at_call 184; refine (unhide H162).mono ?_; rintro e w4 ⟨v4, rfl, o4, f4⟩; obtain ⟨a4, n4, c4, rfl⟩ := ownI_shape o4; have O4 := hide o4; have F4 := hide f4; clear o4 f4)
      | (go_at_call 183; refine (unhide H161 _ _ _ _ _ _ _ _).mono ?_; rintro e w3 ⟨rfl, f3⟩; have f5 := (unhide F4).trans f3; have hrow := (f5.same _ hz2 (fun h => h)).trans (unhide HR2); have hcell := fun j => cell_of_row w3 w.heap.size j _ 49 (0, 0) hrow; have hfz := fun j => frozen_rowE hrow j; have O5 := hide (ownsRow_of_block (unhide O4) (fun q hq => f3.same q (World.ownsRow.lt (unhide O4) q hq).2 (fun h => h))); have F3 := hide f5; clear f3 f5 hrow))
    refine exRet_ret (bodyPost_ret (v := .tuple #[.agg #[.int .i64 2, .int .i64 0, .int .i64 0, .slice a4 n4 c4], .int .i64 0]) (by simp [results, Tryz.results182, go_sem, hcell]) rfl ?_)
    refine unhide HR _ (.slice a4 n4 c4) (outS (unhide F2) (unhide F3) _ _ _ _) (outC (unhide F2) (unhide F3) (unhide C2) hw1 _ _ _ _) (fun _ => ?_)
    have o5 := unhide O5
    have hlow : ∀ q, own (.slice a4 n4 c4) q → w.heap.size + 1 ≤ q := fun q hq => by have := (World.ownsRow.lt o5 q hq).1; omega
    refine ⟨o5.1, ?_⟩
    have o6 := ownsRow_of_block (w' := (((w3.setCell ⟨w.heap.size, 0, none⟩ (.int .i64 2)).setCell ⟨w.heap.size, 1, none⟩ (.int .i64 0)).setCell ⟨w.heap.size, 2, none⟩ (.int .i64 0)).setCell ⟨w.heap.size, 3, none⟩ (.slice a4 n4 c4)) o5 (fun q hq => by
      have hne : q ≠ w.heap.size := by have := hlow q hq; omega
      rw [Below.heap_setCell _ _ _ _ hne, Below.heap_setCell _ _ _ _ hne, Below.heap_setCell _ _ _ _ hne, Below.heap_setCell _ _ _ _ hne])
    exact o6.2.imp id fun ⟨g, cap, cur, e1, e2, r⟩ => ⟨g, cap, cur, e1, by omega, r⟩
end Go.Proofs.YtfmbebofllgmoaaGreatDoor
namespace Go.Proofs.YtfmbebofllgmoaaGreatDoor
open Go.RowKit
attribute [local go_sem ↓] Go.wp_at_zero Go.wp_at_succ

/-- What a source has answered: if it is an input, what its body is. -/
structure Answ (w1 : World) (z0 z1 z2 : Int) (a : Option Addr) (l c : Nat) (en : Int) (bd : ByteArray) : Prop where
  len : en = 0 → bd.size ≤ 1000 ∧ 0 < bd.size
  body : en = 0 → ∀ W, (∀ q, own (.slice a l c) q → W.heap[q]? = w1.heap[q]?) → w1.heap.size ≤ W.heap.size → Calls Tryz.prog 102 #[.agg #[.int .i64 z0, .int .i64 z1, .int .i64 z2, .slice a l c]] W fun e w' => ∃ v', e = .returned v' ∧ OwnB w' W.heap.size v' bd ∧ Fr (fun _ => False) W w' (fun _ => False)
  old : ∀ q, own (.slice a l c) q → q < w1.heap.size

theorem LogAt.block {w w' : World} {lb B : Nat} {v : Value} {b : ByteArray} (h : LogAt w lb B v b) (hb : ∀ q, lgS lb v q → w'.heap[q]? = w.heap[q]?) (hz : w.heap.size ≤ w'.heap.size) : LogAt w' lb B v b :=
  ⟨(World.cell?_of_block (w := w) (a := ⟨lb, 0, none⟩) (hb lb (.inl rfl))).trans h.cell, (World.frozen?_of_block (w := w) (a := ⟨lb, 0, none⟩) (hb lb (.inl rfl))).trans h.free, h.row.block (fun q hq => hb q (.inr hq)), h.sep, Nat.lt_of_lt_of_le h.lt hz⟩

/-- The input in a box of its own. -/
def boxW (w1 : World) (z0 z1 z2 : Int) (a : Option Addr) (l c : Nat) : World := w1.alloc (.cells #[.int .i64 z0, .int .i64 z1, .int .i64 z2, .slice a l c] 49)

/-- Four cells are written over. -/
theorem out4 {W : World} {g : Nat} {a0 a1 a2 a3 : Value} (h : W.heap[g]? = some (.cells #[a0, a1, a2, a3] 49)) (x0 x1 x2 x3 : Value) :
    ((((W.setCell ⟨g, 0, none⟩ x0).setCell ⟨g, 1, none⟩ x1).setCell ⟨g, 2, none⟩ x2).setCell ⟨g, 3, none⟩ x3).heap[g]? = some (.cells #[x0, x1, x2, x3] 49) := by
  have h0 := setRow_heap W g #[a0, a1, a2, a3] (#[a0, a1, a2, a3].setIfInBounds 0 x0) 49 (0, 0) h
  rw [← setCell_eq_setRow W g 0 _ 49 (0, 0) x0 h] at h0
  have h1 := setRow_heap _ g _ ((#[a0, a1, a2, a3].setIfInBounds 0 x0).setIfInBounds 1 x1) 49 (0, 0) h0
  rw [← setCell_eq_setRow _ g 1 _ 49 (0, 0) x1 h0] at h1
  have h2 := setRow_heap _ g _ (((#[a0, a1, a2, a3].setIfInBounds 0 x0).setIfInBounds 1 x1).setIfInBounds 2 x2) 49 (0, 0) h1
  rw [← setCell_eq_setRow _ g 2 _ 49 (0, 0) x2 h1] at h2
  have h3 := setRow_heap _ g _ ((((#[a0, a1, a2, a3].setIfInBounds 0 x0).setIfInBounds 1 x1).setIfInBounds 2 x2).setIfInBounds 3 x3) 49 (0, 0) h2
  rw [← setCell_eq_setRow _ g 3 _ 49 (0, 0) x3 h2] at h3
  exact h3
theorem out4_other {W : World} {g q : Nat} (hq : q ≠ g) (x0 x1 x2 x3 : Value) : ((((W.setCell ⟨g, 0, none⟩ x0).setCell ⟨g, 1, none⟩ x1).setCell ⟨g, 2, none⟩ x2).setCell ⟨g, 3, none⟩ x3).heap[q]? = W.heap[q]? := by
  rw [Below.heap_setCell _ _ _ _ hq, Below.heap_setCell _ _ _ _ hq, Below.heap_setCell _ _ _ _ hq, Below.heap_setCell _ _ _ _ hq]
theorem out4_size {W : World} {g : Nat} (x0 x1 x2 x3 : Value) : ((((W.setCell ⟨g, 0, none⟩ x0).setCell ⟨g, 1, none⟩ x1).setCell ⟨g, 2, none⟩ x2).setCell ⟨g, 3, none⟩ x3).heap.size = W.heap.size := by simp [World.setCell]
theorem out4_fr {S S' : Nat → Prop} {w W : World} (h : Fr S w W S') {g : Nat} (hg : S g ∨ w.heap.size ≤ g) (x0 x1 x2 x3 : Value) : Fr S w ((((W.setCell ⟨g, 0, none⟩ x0).setCell ⟨g, 1, none⟩ x1).setCell ⟨g, 2, none⟩ x2).setCell ⟨g, 3, none⟩ x3) S' :=
  (((h.setCell _ _ hg).setCell _ _ hg).setCell _ _ hg).setCell _ _ hg

set_option maxHeartbeats 2000000 in
set_option maxRecDepth 20000 in
theorem rec_gen {w : World} {rb sb lb B : Nat} {v : Value} {log : ByteArray} (c0 : w.cell? ⟨rb, 0, none⟩ = some (.pointer (some ⟨sb, 0, none⟩))) (c1 : w.cell? ⟨rb, 1, none⟩ = some (.pointer (some ⟨lb, 0, none⟩))) (hrb : rb < w.heap.size) (hB : B ≤ w.heap.size) (hlog : log.size ≤ 800000000) (hlb : lb < w.heap.size) (k o : Int)
    (Q : World → Int → Int → Int → Option Addr → Nat → Nat → Int → ByteArray → Prop)
    (h160 : Calls Tryz.prog 182 #[.pointer (some ⟨sb, 0, none⟩), .int .i64 k, .int .i64 o] (w.alloc (.cells #[.int .i64 0, .int .i64 0, .int .i64 0, .slice none 0 0] 49)) fun e w1 => ∃ z0 z1 z2 a l c en bd, e = .returned (.tuple #[.agg #[.int .i64 z0, .int .i64 z1, .int .i64 z2, .slice a l c], .int .i64 en]) ∧ Answ w1 z0 z1 z2 a l c en bd ∧ LogAt w1 lb B v log ∧
      w1.heap[rb]? = w.heap[rb]? ∧ w1.heap[w.heap.size]? = some (.cells #[.int .i64 0, .int .i64 0, .int .i64 0, .slice none 0 0] 49) ∧ (¬ own v w.heap.size) ∧ Q w1 z0 z1 z2 a l c en bd) :
    Calls Tryz.prog 181 #[.pointer (some ⟨rb, 0, none⟩), .int .i64 k, .int .i64 o] w fun e w' => ∃ w1 z0 z1 z2 a l c en bd v', e = .returned (.tuple #[.agg #[.int .i64 z0, .int .i64 z1, .int .i64 z2, .slice a l c], .int .i64 en]) ∧ Q w1 z0 z1 z2 a l c en bd ∧ LogAt w' lb B v' (if en = 0 then log ++ frameS bd else log) ∧
      Fr (fun k => lgS lb v k ∨ k = w.heap.size) w1 w' (fun k => lgS lb v' k ∨ k = w.heap.size) ∧ ¬ own v' w.heap.size := by
  have k0 : (w.alloc (.cells #[.int .i64 0, .int .i64 0, .int .i64 0, .slice none 0 0] 49)).cell? ⟨rb, 0, none⟩ = some (.pointer (some ⟨sb, 0, none⟩)) := (World.cell?_of_block (w := w) (a := ⟨rb, 0, none⟩) (Below.heap_alloc _ _ _ hrb)).trans c0
  have C1 := hide c1
  clear c0 c1
  generalize hpost : (fun (e : Ending) (w' : World) => ∃ w1 z0 z1 z2 a l c en bd v', e = .returned (.tuple #[.agg #[.int .i64 z0, .int .i64 z1, .int .i64 z2, .slice a l c], .int .i64 en]) ∧ Q w1 z0 z1 z2 a l c en bd ∧ LogAt w' lb B v' (if en = 0 then log ++ frameS bd else log) ∧
      Fr (fun k => lgS lb v k ∨ k = w.heap.size) w1 w' (fun k => lgS lb v' k ∨ k = w.heap.size) ∧ ¬ own v' w.heap.size) = R
  have HP := hide hpost
  clear hpost
  have H160 := hide h160
  clear h160
  go_enter Tryz.func181, Tryz.ntmps181
  go_wp2_with fail
  go_at_call 182
  refine (unhide H160).mono ?_
  rintro e w1 ⟨z0, z1, z2, a, l, c, en, bd, rfl, an, lg, hr, hz, hv, hq⟩
  have hrz : rb < w1.heap.size := by rw [Array.getElem?_eq_getElem hrb] at hr; exact (Array.getElem?_eq_some_iff.1 hr).1
  have hwz : w.heap.size < w1.heap.size := (Array.getElem?_eq_some_iff.1 hz).1
  have hbox := heap_alloc_new w1 (.cells #[.int .i64 z0, .int .i64 z1, .int .i64 z2, .slice a l c] 49)
  have hr2 : (boxW w1 z0 z1 z2 a l c).heap[w.heap.size]? = some (.cells #[.int .i64 0, .int .i64 0, .int .i64 0, .slice none 0 0] 49) := (Below.heap_alloc _ _ _ hwz).trans hz
  have d1 : (boxW w1 z0 z1 z2 a l c).cell? ⟨rb, 1, none⟩ = some (.pointer (some ⟨lb, 0, none⟩)) := (World.cell?_of_block (w := w) (a := ⟨rb, 1, none⟩) ((Below.heap_alloc _ _ _ hrz).trans hr)).trans (unhide C1)
  have AN := hide an
  have LG := hide lg
  have HV := hide hv
  have HQ := hide hq
  have HB2 := hide hbox
  have HR2 := hide hr2
  have HZ := hide hz
  clear hr hz hv hq hbox hr2 an lg
  unfold boxW at *
  have q0 : w1.cell? ⟨w.heap.size, 0, none⟩ = some (.int .i64 0) := cell_of_row _ _ 0 _ 49 (0, 0) (unhide HZ)
  have q1 : w1.cell? ⟨w.heap.size, 1, none⟩ = some (.int .i64 0) := cell_of_row _ _ 1 _ 49 (0, 0) (unhide HZ)
  have q2 : w1.cell? ⟨w.heap.size, 2, none⟩ = some (.int .i64 0) := cell_of_row _ _ 2 _ 49 (0, 0) (unhide HZ)
  have q3 : w1.cell? ⟨w.heap.size, 3, none⟩ = some (.slice none 0 0) := cell_of_row _ _ 3 _ 49 (0, 0) (unhide HZ)
  have qf := fun j => frozen_rowE (unhide HZ) j
  have hne : w.heap.size ≠ w1.heap.size := by omega
  have hne' : ¬ w1.heap.size = w.heap.size := by omega
  by_cases he : en = 0
  · subst he
    have h70 := wheard_any (w := (w1.alloc (.cells #[.int .i64 z0, .int .i64 z1, .int .i64 z2, .slice a l c] 49)).drew) (lb := lb) (B := B) (v := v) (b := log) (bd := bd)
      ((unhide LG).block (fun q hq => Below.heap_alloc _ _ _ (by
        rcases hq with rfl | hq
        · exact (unhide LG).lt
        · exact ((unhide LG).row.bump q hq).2)) (by show w1.heap.size ≤ (w1.alloc _).heap.size; simp))
      (by show B ≤ (w1.alloc _).heap.size; simp; omega) (.int .i64 z0) (.int .i64 z1) (.int .i64 z2) a l c z0 z1 z2 rfl rfl rfl ((unhide AN).len rfl).1 ((unhide AN).len rfl).2 hlog
      (by
        have hz3 : (((w1.alloc (.cells #[.int .i64 z0, .int .i64 z1, .int .i64 z2, .slice a l c] 49)).drew).alloc (.cells #[.int .i64 z0, .int .i64 z1, .int .i64 z2, .slice a l c] 49)).heap.size = (w1.alloc (.cells #[.int .i64 z0, .int .i64 z1, .int .i64 z2, .slice a l c] 49)).drew.heap.size + 1 := by simp
        have := (unhide AN).body rfl (((w1.alloc (.cells #[.int .i64 z0, .int .i64 z1, .int .i64 z2, .slice a l c] 49)).drew).alloc (.cells #[.int .i64 z0, .int .i64 z1, .int .i64 z2, .slice a l c] 49))
          (fun q hq => (Below.heap_alloc _ _ _ (by show q < (w1.alloc _).heap.size; have := (unhide AN).old q hq; simp; omega)).trans (Below.heap_alloc _ _ _ ((unhide AN).old q hq)))
          (by rw [hz3]; show w1.heap.size ≤ (w1.alloc _).heap.size + 1; simp; omega)
        rw [hz3] at this
        exact this)
    have H70 := hide h70
    have nl : ¬ lgS lb v w.heap.size := fun h => h.elim (fun h => by omega) (unhide HV)
    have nb : ¬ lgS lb v w1.heap.size := fun h => h.elim (fun h => by have := (unhide LG).lt; omega) (fun h => by have := ((unhide LG).row.bump _ h).2; omega)
    have NL := hide nl
    have NB := hide nb
    clear h70 nl nb
    go_wp2
    go_region_with (go_at_call 64; refine (unhide H70).mono ?_; rintro e w2 ⟨v2, rfl, l2, f2⟩; have r1 := (f2.same w.heap.size (by show _ < (w1.alloc _).heap.size; simp; omega) (unhide NL)).trans (unhide HR2); have r2 := (f2.same w1.heap.size (by show _ < (w1.alloc _).heap.size; simp) (unhide NB)).trans (unhide HB2); have t0 := fun j => cell_of_row w2 _ j _ 49 (0, 0) r1; have t1 := fun j => cell_of_row w2 _ j _ 49 (0, 0) r2; have tf := fun j => frozen_rowE r1 j; have L2 := hide l2; have F2 := hide f2; have R1 := hide r1; clear l2 f2 r1 r2)
    all_goals
      go_wp2
      have g0 := fun j => cell_of_row _ _ j _ 49 (0, 0) (out4 (unhide R1) (.int .i64 z0) (.int .i64 z1) (.int .i64 z2) (.slice a l c))
      refine bodyPost_ret (v := .tuple #[.agg #[.int .i64 z0, .int .i64 z1, .int .i64 z2, .slice a l c], .int .i64 0]) (by simp [results, Tryz.results181, go_sem, g0]) rfl ?_
      rw [← unhide HP]
      have f2 := unhide F2
      have hn : ¬ lgS lb v2 w.heap.size := fun h => unhide NL (f2.old _ (by show _ < (w1.alloc _).heap.size; simp; omega) h)
      refine ⟨w1, z0, z1, z2, a, l, c, 0, bd, v2, rfl, unhide HQ, ?_, ?_, fun h => hn (.inr h)⟩
      · rw [if_pos rfl]
        exact (unhide L2).block (fun q hq => out4_other (by rintro rfl; exact hn hq) _ _ _ _) (Nat.le_of_eq (out4_size _ _ _ _).symm)
      · have f3 : Fr (lgS lb v) w1 w2 (lgS lb v2) := Fr.unalloc (o := .cells #[.int .i64 z0, .int .i64 z1, .int .i64 z2, .slice a l c] 49) ⟨f2.os, f2.tape, f2.output, f2.size, f2.same, f2.old⟩
        have f4 : Fr (fun k => lgS lb v k ∨ k = w.heap.size) w1 w2 (fun k => lgS lb v2 k ∨ k = w.heap.size) := ⟨f3.os, f3.tape, f3.output, f3.size, fun k hk hn => f3.same k hk (fun h => hn (.inl h)), fun k hk h => h.imp (f3.old k hk) id⟩
        exact out4_fr f4 (.inl (.inr rfl)) _ _ _ _
  · have hen : (en == 0) = false := by simpa using he
    have hfin : (((((w1.setCell ⟨w.heap.size, 0, none⟩ (.int .i64 z0)).setCell ⟨w.heap.size, 1, none⟩ (.int .i64 z1)).setCell ⟨w.heap.size, 2, none⟩ (.int .i64 z2)).setCell ⟨w.heap.size, 3, none⟩ (.slice a l c)).alloc (.cells #[.int .i64 z0, .int .i64 z1, .int .i64 z2, .slice a l c] 49)).heap[w.heap.size]? = some (.cells #[.int .i64 z0, .int .i64 z1, .int .i64 z2, .slice a l c] 49) :=
      (Below.heap_alloc _ _ _ (by rw [out4_size]; exact hwz)).trans (out4 (unhide HZ) _ _ _ _)
    have g0 := fun j => cell_of_row _ _ j _ 49 (0, 0) hfin
    have HFIN := hide hfin
    clear hfin
    have G0 := hide g0
    clear g0
    go_wp2
    have g0 := unhide G0
    refine bodyPost_ret (v := .tuple #[.agg #[.int .i64 z0, .int .i64 z1, .int .i64 z2, .slice a l c], .int .i64 en]) (by simp [results, Tryz.results181, go_sem, g0]) rfl ?_
    rw [← unhide HP]
    refine ⟨w1, z0, z1, z2, a, l, c, en, bd, v, rfl, unhide HQ, ?_, ?_, unhide HV⟩
    · rw [if_neg he]
      refine (unhide LG).block (fun q hq => ?_) ?_
      · have hlt : q < w1.heap.size := by
          rcases hq with rfl | hq
          · exact (unhide LG).lt
          · exact ((unhide LG).row.bump q hq).2
        have hn : q ≠ w.heap.size := by
          rintro rfl
          rcases hq with hq | hq
          · omega
          · exact unhide HV hq
        exact (Below.heap_alloc _ _ _ (by rw [out4_size]; exact hlt)).trans (out4_other hn _ _ _ _)
      · rw [← out4_size (W := w1) (g := w.heap.size) (.int .i64 z0) (.int .i64 z1) (.int .i64 z2) (.slice a l c)]; simp
    · exact (out4_fr (Fr.refl (fun k => lgS lb v k ∨ k = w.heap.size) w1) (.inl (.inr rfl)) _ _ _ _).alloc _
end Go.Proofs.YtfmbebofllgmoaaGreatDoor
namespace Go.Proofs.YtfmbebofllgmoaaGreatDoor
open Go.RowKit

/-- What a world has still to say, and the log so far. -/
structure RS where
  clocks : List Int
  batches : List (Value × List Int)
  picks : List Int
  lots : List Int
  log : ByteArray
def RS.left (x : RS) : Nat := x.clocks.length + x.batches.length + x.picks.length + x.lots.length
def noRep : Rep := ⟨0, 0, 0, [], 5⟩
def clampC (n : Int) : Int := min (max n 0) 1099511627776
/-- The recorder's answer. -/
def recAsk (x : RS) (k o : Int) : Rep × RS :=
  if k = 1 then match x.clocks with
    | [] => (noRep, x)
    | n :: r => (⟨1, 0, clampC n, [], 0⟩, { x with clocks := r, log := x.log ++ frameS (bodyS 1 0 (clampC n).toNat) })
  else if k = 2 then match x.batches with
    | [] => (noRep, x)
    | b :: r => (⟨2, 0, 0, filesL b.2, 0⟩, { x with batches := r, log := x.log ++ frameS (batchS (filesL b.2)) })
  else if k = 3 then match x.picks with
    | [] => (noRep, x)
    | n :: r => (⟨3, o, n % o, [], 0⟩, { x with picks := r, log := x.log ++ frameS (bodyS 3 o.toNat (n % o).toNat) })
  else match x.lots with
    | [] => (noRep, x)
    | n :: r => (⟨4, o, n % o, [], 0⟩, { x with lots := r, log := x.log ++ frameS (bodyS 4 o.toNat (n % o).toNat) })
def mayR (k o : Int) : Prop := (k = 1 ∧ o = 0) ∨ (k = 2 ∧ o = 0) ∨ (k = 3 ∧ 2 ≤ o ∧ o ≤ 8) ∨ (k = 4 ∧ 1 ≤ o ∧ o ≤ 1000000)

theorem mayR_ok : MayOk mayR := ⟨.inl ⟨rfl, rfl⟩, .inr (.inl ⟨rfl, rfl⟩), fun n h1 h2 => .inr (.inr (.inl ⟨rfl, by omega, by omega⟩)), fun v h1 h2 => .inr (.inr (.inr ⟨rfl, h1, h2⟩))⟩

/-- The recorder in memory. -/
structure RecAt (rb sb lb c0 c1 c2 c3 B : Nat) (v : Value) (L : Nat → Prop) (ob : Nat → Option Obj) (T : Nat → Prop) (w : World) (x : RS) : Prop where
  r0 : w.cell? ⟨rb, 0, none⟩ = some (.pointer (some ⟨sb, 0, none⟩))
  r1 : w.cell? ⟨rb, 1, none⟩ = some (.pointer (some ⟨lb, 0, none⟩))
  s0 : w.cell? ⟨sb, 0, none⟩ = some (.chan (some c0))
  s1 : w.cell? ⟨sb, 1, none⟩ = some (.chan (some c1))
  s2 : w.cell? ⟨sb, 2, none⟩ = some (.chan (some c2))
  s3 : w.cell? ⟨sb, 3, none⟩ = some (.chan (some c3))
  h0 : ChanAt w c0 (x.clocks.map (.int .i64))
  h1 : ChanAt w c1 (x.batches.map (·.1))
  h2 : ChanAt w c2 (x.picks.map (.int .i64))
  h3 : ChanAt w c3 (x.lots.map (.int .i64))
  log : LogAt w lb B v x.log
  low : B ≤ w.heap.size
  nod : [rb, sb, lb, c0, c1, c2, c3].Nodup
  inT : ∀ q, q ∈ [rb, sb, lb, c0, c1, c2, c3] → T q ∧ ¬ L q ∧ ¬ own v q
  vT : ∀ q, own v q → T q ∧ ¬ L q
  lT : ∀ q, L q → T q
  lent : ∀ q, L q → w.heap[q]? = ob q
  bs : ∀ p, p ∈ x.batches → IntsIn w p.1 p.2 L ∧ p.2.length ≤ 100000000
  room : x.log.size + 40 * x.left ≤ 700000000
def RecA (rb : Nat) (L : Nat → Prop) (ob : Nat → Option Obj) (T : Nat → Prop) (w : World) (x : RS) : Prop := ∃ sb lb c0 c1 c2 c3 B v, RecAt rb sb lb c0 c1 c2 c3 B v L ob T w x

theorem IntsIn.block {w w' : World} {v : Value} {l : List Int} {P : Nat → Prop} (h : IntsIn w v l P) (hb : ∀ q, P q → w'.heap[q]? = w.heap[q]?) : IntsIn w' v l P := by
  obtain ⟨a, c, hv, hc⟩ := h
  refine ⟨a, c, hv, hc.imp id fun ⟨q, off, e, hq, hcell⟩ => ⟨q, off, e, hq, fun i hi => ?_⟩⟩
  rw [World.cell?_of_block (w := w) (a := ⟨q, off + i, none⟩) (hb q hq)]
  exact hcell i hi

theorem recA_law (rb : Nat) (L : Nat → Prop) (ob : Nat → Option Obj) : SrcLaw (RecA rb L ob) := by
  constructor
  rintro S w w' x ⟨sb, lb, c0, c1, c2, c3, B, v, h⟩ hs hz
  have m := fun q hq => hs q (h.inT q hq).1
  have cel := fun q hq off => World.cell?_of_block (w := w) (w' := w') (a := ⟨q, off, none⟩) (m q hq)
  refine ⟨sb, lb, c0, c1, c2, c3, B, v, ?_, ?_, ?_, ?_, ?_, ?_, h.h0.block (m _ (by simp)), h.h1.block (m _ (by simp)), h.h2.block (m _ (by simp)), h.h3.block (m _ (by simp)), ?_, Nat.le_trans h.low hz, h.nod, h.inT, h.vT, h.lT, ?_, ?_, h.room⟩
  · exact (cel rb (by simp) 0).trans h.r0
  · exact (cel rb (by simp) 1).trans h.r1
  · exact (cel sb (by simp) 0).trans h.s0
  · exact (cel sb (by simp) 1).trans h.s1
  · exact (cel sb (by simp) 2).trans h.s2
  · exact (cel sb (by simp) 3).trans h.s3
  · exact h.log.block (fun q hq => by
      rcases hq with rfl | hq
      · exact m _ (by simp)
      · exact hs q (h.vT q hq).1) hz
  · exact fun q hq => (hs q (h.lT q hq)).trans (h.lent q hq)
  · exact fun p hp => ⟨(h.bs p hp).1.block (fun q hq => hs q (h.lT q hq)), (h.bs p hp).2⟩

theorem filesL_mem (l : List Int) (z : Int) (h : z ∈ filesL l) : 0 ≤ z ∧ z < 8 := filesK_mem _ 8 z h
theorem filesL_most (l : List Int) : (filesL l).length ≤ 8 := filesK_length _ 8
theorem recAsk_ok : SrcOk recAsk (fun x => x.clocks.length) := by
  refine ⟨?_, ?_, ?_, ?_, ?_, ?_⟩
  · intro x k o
    simp only [recAsk]
    split
    · split <;> simp_all
    · split
      · split <;> simp
      · split
        · split <;> simp
        · split <;> simp
  · intro x h
    simp only [recAsk, if_true] at h ⊢
    split at h
    · simp [noRep] at h
    · rename_i n r hx
      simp [hx]
  · intro x h
    simp only [recAsk, if_true] at h ⊢
    split at h
    · simp [noRep] at h
    · rename_i n r hx
      simp only [clampC]
      omega
  · intro x n h2 h8 h
    have e1 : ¬ (3 : Int) = 1 := by omega
    have e2 : ¬ (3 : Int) = 2 := by omega
    simp only [recAsk, e1, e2, if_false, if_true] at h ⊢
    split at h
    · simp [noRep] at h
    · exact ⟨Int.emod_nonneg _ (by omega), Int.emod_lt_of_pos _ (by omega)⟩
  · intro x z h
    have e1 : ¬ (2 : Int) = 1 := by omega
    simp only [recAsk, e1, if_false, if_true] at h
    split at h
    · simp [noRep] at h
    · exact filesL_mem _ z h
  · intro x
    have e1 : ¬ (2 : Int) = 1 := by omega
    simp only [recAsk, e1, if_false, if_true]
    split
    · simp [noRep]
    · exact filesL_most _

theorem varS_le (k : Nat) : ∀ n, n < 128 ^ k → (varS n).size ≤ k + 1 := by
  induction k with
  | zero => intro n h; rw [varS_eq, if_pos (by omega)]; simp
  | succ k ih =>
    intro n h
    rw [varS_eq]
    by_cases hn : n < 128
    · rw [if_pos hn]; simp
    · rw [if_neg hn, ByteArray.size_append]
      have h1 : n / 128 < 128 ^ k := by
        rw [Nat.div_lt_iff_lt_mul (by omega)]
        rw [Nat.pow_succ] at h
        exact h
      have := ih (n / 128) h1
      simp
      omega
theorem varS_one (n : Nat) (h : n < 128) : (varS n).size = 1 := by rw [varS_eq, if_pos h]; simp
theorem one_size (k : Nat) : (one k).size = 1 := by unfold one; simp
theorem sumS_size (b : ByteArray) : (sumS b).size = 4 := b4_size _
theorem frameS_size (b : ByteArray) (h : b.size ≤ 32) : (frameS b).size ≤ 40 := by
  unfold frameS
  rw [ByteArray.size_append, ByteArray.size_append, sumS_size, varS_one _ (by omega)]
  omega
theorem bodyS_size (k o n : Nat) (ho : o ≤ 1099511627776) (hn : n ≤ 1099511627776) : (bodyS k o n).size ≤ 32 ∧ 0 < (bodyS k o n).size := by
  have h1 := varS_le 6 o (by omega)
  have h2 := varS_le 6 n (by omega)
  unfold bodyS
  split
  · rw [ByteArray.size_append, ByteArray.size_append, one_size]; omega
  · rw [ByteArray.size_append, one_size]; omega
theorem filesS_size (l : List Int) (hz : ∀ z, z ∈ l → 0 ≤ z ∧ z < 8) : ∀ r, (filesS l r).size = r.size + l.length := by
  induction l with
  | nil => intro r; simp [filesS]
  | cons z l ih =>
    intro r
    have h := hz z (List.mem_cons_self ..)
    have := ih (fun z hm => hz z (List.mem_cons_of_mem _ hm)) (r ++ varS z.toNat)
    simp only [filesS, List.foldl_cons] at this ⊢
    rw [this, ByteArray.size_append, varS_one _ (by omega), List.length_cons]
    omega
theorem batchS_size (l : List Int) (hz : ∀ z, z ∈ l → 0 ≤ z ∧ z < 8) (h8 : l.length ≤ 8) : (batchS l).size ≤ 32 ∧ 0 < (batchS l).size := by
  unfold batchS
  rw [filesS_size l hz, ByteArray.size_append, one_size, varS_one _ (by omega)]
  omega

/-- The source has answered by its channel ci, and what was heard is written down. -/
theorem RecAt.next {rb sb lb c0 c1 c2 c3 B : Nat} {v : Value} {L : Nat → Prop} {ob : Nat → Option Obj} {T : Nat → Prop} {w : World} {x : RS} (h : RecAt rb sb lb c0 c1 c2 c3 B v L ob T w x) (hT : ∀ q, T q → q < w.heap.size) {ci : Nat} (hci : ci ∈ [c0, c1, c2, c3]) {o : Obj} {w1 w' : World} {v' : Value} {x' : RS}
    (f1 : Fr (fun k => k = ci) (w.alloc o) w1 (fun k => k = ci)) (fl : Fr (fun k => lgS lb v k ∨ k = w.heap.size) w1 w' (fun k => lgS lb v' k ∨ k = w.heap.size)) (lg : LogAt w' lb B v' x'.log) (hnw : ¬ own v' w.heap.size)
    (hx : ∀ w'' : World, (∀ q, q ∈ [c0, c1, c2, c3] → w''.heap[q]? = w1.heap[q]?) → ChanAt w'' c0 (x'.clocks.map (.int .i64)) ∧ ChanAt w'' c1 (x'.batches.map (·.1)) ∧ ChanAt w'' c2 (x'.picks.map (.int .i64)) ∧ ChanAt w'' c3 (x'.lots.map (.int .i64)))
    (hb : ∀ p, p ∈ x'.batches → p ∈ x.batches) (hr : x'.log.size + 40 * x'.left ≤ 700000000) :
    ∃ T', RecA rb L ob T' w' x' ∧ Fr T w w' T' ∧ (∀ q, T' q → q < w'.heap.size) ∧ (∀ q, w.heap.size < q → q < w1.heap.size → ¬ T' q) := by
  have hz1 : w.heap.size < w1.heap.size := Nat.lt_of_lt_of_le (by simp) f1.size
  have hcm : ∀ q, q ∈ [c0, c1, c2, c3] → q ∈ [rb, sb, lb, c0, c1, c2, c3] := by intro q hq; simp at hq ⊢; omega
  have hTw : ∀ q, T q → q < w1.heap.size := fun q hq => Nat.lt_trans (hT q hq) hz1
  -- a block of the source that is not the channel, the log, or the log's row
  have same : ∀ q, T q → q ≠ ci → q ≠ lb → ¬ own v q → w'.heap[q]? = w.heap[q]? := by
    intro q hq h1 h2 h3
    have hlt := hT q hq
    refine (fl.same q (hTw q hq) ?_).trans ((f1.same q (by simp; omega) h1).trans (Below.heap_alloc _ _ _ hlt))
    rintro ((h | h) | h)
    · exact h2 h
    · exact h3 h
    · omega
  have sep := (List.nodup_append (l₁ := [rb, sb, lb]) (l₂ := [c0, c1, c2, c3]).1 h.nod).2.2
  have hlr : lb ≠ rb ∧ lb ≠ sb := by
    have := (List.nodup_append (l₁ := [rb, sb, lb]) (l₂ := [c0, c1, c2, c3]).1 h.nod).1
    simp at this
    exact ⟨fun e => this.1.2 e.symm, fun e => this.2 e.symm⟩
  have hcil : rb ≠ ci ∧ sb ≠ ci ∧ lb ≠ ci := ⟨sep rb (by simp) ci hci, sep sb (by simp) ci hci, sep lb (by simp) ci hci⟩
  have hv' : ∀ q, own v' q → (own v q ∨ w1.heap.size ≤ q) ∧ q < w'.heap.size ∧ q ≠ lb := by
    intro q hq
    have hb := (lg.row.bump q hq).2
    have hnl : q ≠ lb := by rintro rfl; exact lg.sep hq
    refine ⟨?_, hb, hnl⟩
    by_cases hlt : q < w1.heap.size
    · rcases fl.old q hlt (.inl (.inr hq)) with (h1 | h1) | h1
      · exact absurd h1 hnl
      · exact .inl h1
      · exact absurd (h1 ▸ hq) hnw
    · exact .inr (by omega)
  have cell : ∀ q off, q ∈ [rb, sb] → w'.cell? ⟨q, off, none⟩ = w.cell? ⟨q, off, none⟩ := by
    intro q off hq
    have hm : q ∈ [rb, sb, lb, c0, c1, c2, c3] := by simp at hq ⊢; rcases hq with h | h <;> simp [h]
    have h1 : q ≠ ci := by simp at hq; rcases hq with h | h <;> (rw [h]; first | exact hcil.1 | exact hcil.2.1)
    have h2 : q ≠ lb := by simp at hq; rcases hq with h | h <;> (rw [h]; first | exact hlr.1.symm | exact hlr.2.symm)
    exact World.cell?_of_block (w := w) (a := ⟨q, off, none⟩) (same q (h.inT q hm).1 h1 h2 (h.inT q hm).2.2)
  have chan := hx w' (fun q hq => fl.same q (hTw q (h.inT q (hcm q hq)).1) (by
    rintro ((e | e) | e)
    · exact sep lb (by simp) q hq e.symm
    · exact (h.inT q (hcm q hq)).2.2 e
    · have := hT q (h.inT q (hcm q hq)).1; omega))
  have hvL : ∀ q, own v' q → ¬ L q := fun q hq hl => by
    rcases (hv' q hq).1 with h1 | h1
    · exact (h.vT q h1).2 hl
    · have := hT q (h.lT q hl); omega
  have hLs : ∀ q, L q → w'.heap[q]? = w.heap[q]? := fun q hq => same q (h.lT q hq) (fun e => (h.inT ci (hcm ci hci)).2.1 (e ▸ hq)) (fun e => (h.inT lb (by simp)).2.1 (e ▸ hq)) (fun e => (h.vT q e).2 hq)
  refine ⟨fun q => (T q ∧ ¬ own v q) ∨ own v' q, ⟨sb, lb, c0, c1, c2, c3, B, v', (cell rb 0 (by simp)).trans h.r0, (cell rb 1 (by simp)).trans h.r1, (cell sb 0 (by simp)).trans h.s0, (cell sb 1 (by simp)).trans h.s1, (cell sb 2 (by simp)).trans h.s2, (cell sb 3 (by simp)).trans h.s3, chan.1, chan.2.1, chan.2.2.1, chan.2.2.2, lg, ?_, h.nod, ?_, ?_, ?_, ?_, ?_, hr⟩, ?_, ?_, ?_⟩
  · have := h.low; have := fl.size; omega
  · intro q hq
    have := h.inT q hq
    refine ⟨.inl ⟨this.1, this.2.2⟩, this.2.1, fun e => ?_⟩
    rcases (hv' q e).1 with h1 | h1
    · exact this.2.2 h1
    · have := hT q this.1; omega
  · exact fun q hq => ⟨.inr hq, hvL q hq⟩
  · exact fun q hq => .inl ⟨h.lT q hq, fun e => (h.vT q e).2 hq⟩
  · exact fun q hq => (hLs q hq).trans (h.lent q hq)
  · exact fun p hp => ⟨(h.bs p (hb p hp)).1.block hLs, (h.bs p (hb p hp)).2⟩
  · refine ⟨fl.os.trans f1.os, fl.tape.trans f1.tape, fl.output.trans f1.output, by have := fl.size; omega, ?_, ?_⟩
    · intro k hk hn
      refine (fl.same k (by omega) ?_).trans ((f1.same k (by simp; omega) ?_).trans (Below.heap_alloc _ _ _ hk))
      · rintro ((e | e) | e)
        · exact hn (e ▸ (h.inT lb (by simp)).1)
        · exact hn (h.vT k e).1
        · omega
      · exact fun e => hn (e ▸ (h.inT ci (hcm ci hci)).1)
    · rintro k hk (e | e)
      · exact e.1
      · rcases (hv' k e).1 with h1 | h1
        · exact (h.vT k h1).1
        · omega
  · rintro q (e | e)
    · have := hTw q e.1; have := fl.size; omega
    · exact (hv' q e).2.1
  · rintro q h1 h2 (e | e)
    · have := hT q e.1; omega
    · rcases (hv' q e).1 with h3 | h3
      · have := hT q (h.vT q h3).1; omega
      · omega

def zero88 : Obj := .cells #[.int .i64 0, .int .i64 0, .int .i64 0, .slice none 0 0] 49
/-- What is as it was, when the source has answered by a channel. -/
theorem RecAt.pre {rb sb lb c0 c1 c2 c3 B : Nat} {v : Value} {L : Nat → Prop} {ob : Nat → Option Obj} {T : Nat → Prop} {w : World} {x : RS} (h : RecAt rb sb lb c0 c1 c2 c3 B v L ob T w x) (hT : ∀ q, T q → q < w.heap.size) {ci : Nat} (hci : ci ∈ [c0, c1, c2, c3]) {w1 : World}
    (f1 : Fr (fun k => k = ci) (w.alloc zero88) w1 (fun k => k = ci)) : LogAt w1 lb B v x.log ∧ w1.heap[rb]? = w.heap[rb]? ∧ w1.heap[w.heap.size]? = some zero88 ∧ (¬ own v w.heap.size) ∧ (∀ q, q < w.heap.size → q ≠ ci → w1.heap[q]? = w.heap[q]?) := by
  have hcm : ∀ q, q ∈ [c0, c1, c2, c3] → q ∈ [rb, sb, lb, c0, c1, c2, c3] := by intro q hq; simp at hq ⊢; omega
  have sep := (List.nodup_append (l₁ := [rb, sb, lb]) (l₂ := [c0, c1, c2, c3]).1 h.nod).2.2
  have same : ∀ q, q < w.heap.size → q ≠ ci → w1.heap[q]? = w.heap[q]? := fun q hq hn => (f1.same q (by simp; omega) hn).trans (Below.heap_alloc _ _ _ hq)
  have hcl := hT ci (h.inT ci (hcm ci hci)).1
  refine ⟨h.log.block (fun q hq => ?_) (by have := f1.size; simp at this; omega), same rb (hT rb (h.inT rb (by simp)).1) (sep rb (by simp) ci hci), (f1.same w.heap.size (by simp) (by omega)).trans (heap_alloc_new w _), fun e => by have := (h.log.row.bump _ e).2; omega, same⟩
  rcases hq with rfl | hq
  · exact same _ h.log.lt (sep _ (by simp) ci hci)
  · exact same q (h.log.row.bump q hq).2 (fun e => (h.inT ci (hcm ci hci)).2.2 (e ▸ hq))

/-- From an answer of the source the word of the recorder. -/
theorem RecAt.hears {B0 rb sb lb c0 c1 c2 c3 B : Nat} {v : Value} {L : Nat → Prop} {ob : Nat → Option Obj} {T : Nat → Prop} {w : World} {x : RS} (h : RecAt rb sb lb c0 c1 c2 c3 B v L ob T w x) (hT : ∀ q, T q → q < w.heap.size) {ci : Nat} (hci : ci ∈ [c0, c1, c2, c3]) {k o : Int} {r : Rep} {x' : RS}
    (hb : ∀ p, p ∈ x'.batches → p ∈ x.batches) (hr : x'.log.size + 40 * x'.left ≤ 700000000)
    (h160 : Calls Tryz.prog 182 #[.pointer (some ⟨sb, 0, none⟩), .int .i64 k, .int .i64 o] (w.alloc zero88) fun e w1 => ∃ a l c bd, e = .returned (.tuple #[.agg #[.int .i64 r.kind, .int .i64 r.of, .int .i64 r.n, .slice a l c], .int .i64 r.e]) ∧ Answ w1 r.kind r.of r.n a l c r.e bd ∧ Fr (fun k => k = ci) (w.alloc zero88) w1 (fun k => k = ci) ∧
      (∀ w'' : World, (∀ q, q ∈ [c0, c1, c2, c3] → w''.heap[q]? = w1.heap[q]?) → ChanAt w'' c0 (x'.clocks.map (.int .i64)) ∧ ChanAt w'' c1 (x'.batches.map (·.1)) ∧ ChanAt w'' c2 (x'.picks.map (.int .i64)) ∧ ChanAt w'' c3 (x'.lots.map (.int .i64))) ∧
      IntsIn w1 (.slice a l c) r.files (fun q => w.heap.size < q ∧ q < w1.heap.size) ∧ x'.log = (if r.e = 0 then x.log ++ frameS bd else x.log)) :
    Calls Tryz.prog 181 #[.pointer (some ⟨rb, 0, none⟩), .int .i64 k, .int .i64 o] w fun e w' =>
      ∃ fv T', e = .returned (.tuple #[.agg #[.int .i64 r.kind, .int .i64 r.of, .int .i64 r.n, fv], .int .i64 r.e]) ∧ RecA rb L ob T' w' x' ∧ Fr T w w' T' ∧ (∀ q, T' q → q < w'.heap.size) ∧ IntsIn w' fv r.files (fun q => (q < B0 ∨ w.heap.size ≤ q ∨ T q) ∧ q < w'.heap.size ∧ ¬ T' q) := by
  have hroom := h.room
  refine (rec_gen (B := B) (v := v) (log := x.log) h.r0 h.r1 (hT rb (h.inT rb (by simp)).1) h.low (by omega) h.log.lt k o (fun w1 z0 z1 z2 a l c en bd => z0 = r.kind ∧ z1 = r.of ∧ z2 = r.n ∧ en = r.e ∧ Fr (fun k => k = ci) (w.alloc zero88) w1 (fun k => k = ci) ∧
      (∀ w'' : World, (∀ q, q ∈ [c0, c1, c2, c3] → w''.heap[q]? = w1.heap[q]?) → ChanAt w'' c0 (x'.clocks.map (.int .i64)) ∧ ChanAt w'' c1 (x'.batches.map (·.1)) ∧ ChanAt w'' c2 (x'.picks.map (.int .i64)) ∧ ChanAt w'' c3 (x'.lots.map (.int .i64))) ∧
      IntsIn w1 (.slice a l c) r.files (fun q => w.heap.size < q ∧ q < w1.heap.size) ∧ x'.log = (if r.e = 0 then x.log ++ frameS bd else x.log)) (h160.mono ?_)).mono ?_
  · rintro e w1 ⟨a, l, c, bd, rfl, an, f1, hx, hi, hl⟩
    obtain ⟨p1, p2, p3, p4, _⟩ := h.pre hT hci f1
    exact ⟨_, _, _, a, l, c, _, bd, rfl, an, p1, p2, p3, p4, rfl, rfl, rfl, rfl, f1, hx, hi, hl⟩
  · rintro e w' ⟨w1, z0, z1, z2, a, l, c, en, bd, v', rfl, ⟨rfl, rfl, rfl, rfl, f1, hx, hi, hl⟩, lg, fl, hnw⟩
    rw [← hl] at lg
    obtain ⟨T', g1, g2, g3, g4⟩ := h.next hT hci f1 fl lg hnw hx hb hr
    refine ⟨_, T', rfl, g1, g2, g3, ?_⟩
    obtain ⟨a', c', hv, hc⟩ := hi
    refine ⟨a', c', hv, hc.imp id fun ⟨q, off, e, ⟨hq1, hq2⟩, hcell⟩ => ⟨q, off, e, ⟨.inr (by omega), Nat.lt_of_lt_of_le hq2 fl.size, g4 q hq1 hq2⟩, fun i hi => ?_⟩⟩
    rw [fl.cell q (off + i) hq2 ?_]
    · exact hcell i hi
    · rintro ((e | e) | e)
      · have := h.log.lt; omega
      · have := (h.log.row.bump q e).2; omega
      · omega

theorem ints_nil (w : World) (P : Nat → Prop) : IntsIn w (.slice none 0 0) [] P := ⟨none, 0, rfl, .inl rfl⟩
theorem answ_no (w : World) (z0 z1 z2 : Int) : Answ w z0 z1 z2 none 0 0 5 ByteArray.empty := ⟨fun h => absurd h (by omega), fun h => absurd h (by omega), fun q h => by simp [own, Value.ownBlock] at h⟩
theorem answ_one (w : World) (n : Nat) (hn : n ≤ 1099511627776) : Answ w 1 0 n none 0 0 0 (bodyS 1 0 n) :=
  ⟨fun _ => by have := bodyS_size 1 0 n (by omega) hn; omega, fun _ W _ _ => pbody_one 1 0 n _ none 0 0 rfl (.inl rfl) (by omega) W, fun q h => by simp [own, Value.ownBlock] at h⟩
theorem answ_two (w : World) (k o n : Nat) (hk : k = 3 ∨ k = 4) (ho : o ≤ 1000000) (hn : n ≤ 1000000) : Answ w k o n none 0 0 0 (bodyS k o n) :=
  ⟨fun _ => by have := bodyS_size k o n (by omega) (by omega); omega, fun _ W _ _ => pbody_two k o n _ none 0 0 rfl hk (by omega) (by omega) W, fun q h => by simp [own, Value.ownBlock] at h⟩
theorem ownI_ints {w : World} {B : Nat} {v : Value} {l : List Int} (h : OwnI w B v l) : IntsIn w v l (fun q => own v q ∧ B ≤ q ∧ q < w.heap.size) := by
  rcases Nat.eq_zero_or_pos l.length with h0 | h0
  · obtain rfl := List.length_eq_zero_iff.1 h0
    rcases h.2 with ⟨h1, _⟩ | ⟨g, cap, cur, hv, _⟩
    · exact ⟨none, 0, h1, .inl rfl⟩
    · exact ⟨_, cap, hv, .inl rfl⟩
  · obtain ⟨g, cap, cur, hv, hB, hg, _, _, _, hc⟩ := ownI_parts h h0
    refine ⟨_, cap, hv, .inr ⟨g, 0, rfl, ⟨by rw [hv]; rfl, hB, (Array.getElem?_eq_some_iff.1 hg).1⟩, fun i hi => by rw [Nat.zero_add]; exact hc i hi⟩⟩
theorem answ_files {w : World} {B : Nat} {a : Option Addr} {n c : Nat} {l : List Int} (h : OwnI w B (.slice a n c) l) (h8 : l.length ≤ 8) (hz : ∀ z, z ∈ l → 0 ≤ z ∧ z < 8) : Answ w 2 0 0 a n c 0 (batchS l) := by
  refine ⟨fun _ => by have := batchS_size l hz h8; omega, fun _ W hW hw => ?_, fun q hq => (World.ownsRow.lt h q hq).2⟩
  have h2 : OwnI W B (.slice a n c) l := ownsRow_of_block h hW
  exact pbody_files 0 0 _ l W (fun q hq => hq.2.2) (ownI_ints h2) h8 hz

theorem recA_hear {B0 : Nat} (rb : Nat) (L : Nat → Prop) (ob : Nat → Option Obj) : HearSpec (RecA rb L ob) recAsk mayR B0 rb 89 181 := by
  refine ⟨invoke_hear, ?_⟩
  rintro T w x k o ⟨sb, lb, c0, c1, c2, c3, B, v, h⟩ hT hmay
  have hm := fun q hq => hT q (h.inT q hq).1
  have hsbl := hm sb (by simp)
  have sep := (List.nodup_append (l₁ := [rb, sb, lb]) (l₂ := [c0, c1, c2, c3]).1 h.nod).2.2
  have nod := (List.nodup_append (l₁ := [rb, sb, lb]) (l₂ := [c0, c1, c2, c3]).1 h.nod).2.1
  simp at nod
  obtain ⟨⟨n01, n02, n03⟩, ⟨n12, n13⟩, n23⟩ := nod
  have hcl : ∀ off, (w.alloc zero88).cell? ⟨sb, off, none⟩ = w.cell? ⟨sb, off, none⟩ := fun off => World.cell?_of_block (w := w) (a := ⟨sb, off, none⟩) (Below.heap_alloc _ _ _ hsbl)
  have hsz : sb < (w.alloc zero88).heap.size := by simp; omega
  have l0 := hm c0 (by simp)
  have l1 := hm c1 (by simp)
  have l2 := hm c2 (by simp)
  have l3 := hm c3 (by simp)
  have hroom := h.room
  unfold RS.left at hroom
  rcases hmay with ⟨rfl, rfl⟩ | ⟨rfl, rfl⟩ | ⟨rfl, h1, h2⟩ | ⟨rfl, h1, h2⟩
  · -- a clock
    have chs : ∀ w1, Fr (fun k => k = c0) (w.alloc zero88) w1 (fun k => k = c0) → ∀ l : List Int, ChanAt w1 c0 (l.map (.int .i64)) → ∀ w'' : World, (∀ q, q ∈ [c0, c1, c2, c3] → w''.heap[q]? = w1.heap[q]?) → ChanAt w'' c0 (l.map (.int .i64)) ∧ ChanAt w'' c1 (x.batches.map (·.1)) ∧ ChanAt w'' c2 (x.picks.map (.int .i64)) ∧ ChanAt w'' c3 (x.lots.map (.int .i64)) := by
      intro w1 f1 l hl w'' hs
      have p5 := (h.pre hT (ci := c0) (by simp) f1).2.2.2.2
      exact ⟨hl.block (hs c0 (by simp)), h.h1.block ((hs c1 (by simp)).trans (p5 c1 l1 (Ne.symm n01))), h.h2.block ((hs c2 (by simp)).trans (p5 c2 l2 (Ne.symm n02))), h.h3.block ((hs c3 (by simp)).trans (p5 c3 l3 (Ne.symm n03)))⟩
    refine h.hears hT (ci := c0) (by simp) (r := (recAsk x 1 0).1) (x' := (recAsk x 1 0).2) ?_ ?_ ?_
    · cases hx : x.clocks <;> simp [recAsk, hx]
    · cases hx : x.clocks with
      | nil => simpa [recAsk, hx, RS.left] using hroom
      | cons n r =>
        have := frameS_size (bodyS 1 0 (clampC n).toNat) (bodyS_size _ _ _ (by omega) (by simp only [clampC]; omega)).1
        simp [recAsk, hx, RS.left, ByteArray.size_append] at hroom ⊢
        omega
    · refine hearS_clock ((hcl 0).trans h.s0) hsz (sep sb (by simp) c0 (by simp)) x.clocks (h.h0.block (Below.heap_alloc _ _ _ l0)) 0 ?_
      intro w1 f1 hc1
      cases hx : x.clocks with
      | nil =>
        rw [hx] at hc1
        refine ⟨none, 0, 0, ByteArray.empty, by simp [recAsk, hx, noRep], by simpa [recAsk, hx, noRep] using answ_no w1 0 0 0, f1, ?_, by simpa [recAsk, hx, noRep] using ints_nil w1 _, by simp [recAsk, hx, noRep]⟩
        simpa [recAsk, hx] using chs w1 f1 _ hc1
      | cons n r =>
        rw [hx] at hc1
        have hcp : ((clampC n).toNat : Int) = clampC n := by simp only [clampC]; omega
        have ha := answ_one w1 (clampC n).toNat (by simp only [clampC]; omega)
        rw [hcp] at ha
        refine ⟨none, 0, 0, bodyS 1 0 (clampC n).toNat, by simp [recAsk, hx, clampC], by simpa [recAsk, hx] using ha, f1, ?_, by simpa [recAsk, hx] using ints_nil w1 _, by simp [recAsk, hx]⟩
        simpa [recAsk, hx] using chs w1 f1 _ hc1
  · -- a batch
    have chs : ∀ w1, Fr (fun k => k = c1) (w.alloc zero88) w1 (fun k => k = c1) → ∀ l : List (Value × List Int), ChanAt w1 c1 (l.map (·.1)) → ∀ w'' : World, (∀ q, q ∈ [c0, c1, c2, c3] → w''.heap[q]? = w1.heap[q]?) → ChanAt w'' c0 (x.clocks.map (.int .i64)) ∧ ChanAt w'' c1 (l.map (·.1)) ∧ ChanAt w'' c2 (x.picks.map (.int .i64)) ∧ ChanAt w'' c3 (x.lots.map (.int .i64)) := by
      intro w1 f1 l hl w'' hs
      have p5 := (h.pre hT (ci := c1) (by simp) f1).2.2.2.2
      exact ⟨h.h0.block ((hs c0 (by simp)).trans (p5 c0 l0 (n01))), hl.block (hs c1 (by simp)), h.h2.block ((hs c2 (by simp)).trans (p5 c2 l2 (Ne.symm n12))), h.h3.block ((hs c3 (by simp)).trans (p5 c3 l3 (Ne.symm n13)))⟩
    have hin : ∀ p, p ∈ x.batches → IntsIn (w.alloc zero88) p.1 p.2 (fun q => q < (w.alloc zero88).heap.size ∧ q ≠ c1) ∧ p.2.length ≤ 100000000 := by
      intro p hp
      obtain ⟨hi, hl⟩ := h.bs p hp
      obtain ⟨a, c, hv, hc⟩ := hi.block (w' := w.alloc zero88) (fun q hq => Below.heap_alloc _ _ _ (hT q (h.lT q hq)))
      refine ⟨⟨a, c, hv, hc.imp id fun ⟨q, off, e, hq, hcell⟩ => ⟨q, off, e, ⟨by have := hT q (h.lT q hq); simp; omega, fun e => (h.inT c1 (by simp)).2.1 (e ▸ hq)⟩, hcell⟩⟩, hl⟩
    refine h.hears hT (ci := c1) (by simp) (r := (recAsk x 2 0).1) (x' := (recAsk x 2 0).2) ?_ ?_ ?_
    · cases hx : x.batches with
      | nil => simp [recAsk, hx]
      | cons n r => simp [recAsk, hx]; exact fun a b h => .inr h
    · cases hx : x.batches with
      | nil => simpa [recAsk, hx, RS.left] using hroom
      | cons n r =>
        have := frameS_size (batchS (filesL n.2)) (batchS_size _ (filesL_mem _) (filesL_most _)).1
        simp [recAsk, hx, RS.left, ByteArray.size_append] at hroom ⊢
        omega
    · refine hearS_batch ((hcl 1).trans h.s1) hsz (sep sb (by simp) c1 (by simp)) x.batches (h.h1.block (Below.heap_alloc _ _ _ l1)) hin 0 ?_
      intro w1 fv f1 hc1 ho
      cases hx : x.batches with
      | nil =>
        rw [hx] at hc1
        refine ⟨none, 0, 0, ByteArray.empty, by simp [recAsk, hx, noRep], by simpa [recAsk, hx, noRep] using answ_no w1 0 0 0, f1, ?_, by simpa [recAsk, hx, noRep] using ints_nil w1 _, by simp [recAsk, hx, noRep]⟩
        simpa [recAsk, hx] using chs w1 f1 _ hc1
      | cons n r =>
        rw [hx] at hc1 ho
        have hO := ho (by simp)
        simp only [List.headD_cons] at hO
        obtain ⟨a, l, c, rfl⟩ := ownI_shape hO
        have ha := answ_files hO (filesL_most _) (filesL_mem _)
        have hI : IntsIn w1 (.slice a l c) (filesL n.2) (fun q => w.heap.size < q ∧ q < w1.heap.size) := by
          obtain ⟨a', c', hv, hc⟩ := ownI_ints hO
          exact ⟨a', c', hv, hc.imp id fun ⟨q, off, e, ⟨_, h2, h3⟩, hcell⟩ => ⟨q, off, e, ⟨by simp at h2; omega, h3⟩, hcell⟩⟩
        refine ⟨a, l, c, batchS (filesL n.2), by simp [recAsk, hx], by simpa [recAsk, hx] using ha, f1, ?_, by simpa [recAsk, hx] using hI, by simp [recAsk, hx]⟩
        simpa [recAsk, hx] using chs w1 f1 _ hc1
  · -- a pick
    have chs : ∀ w1, Fr (fun k => k = c2) (w.alloc zero88) w1 (fun k => k = c2) → ∀ l : List Int, ChanAt w1 c2 (l.map (.int .i64)) → ∀ w'' : World, (∀ q, q ∈ [c0, c1, c2, c3] → w''.heap[q]? = w1.heap[q]?) → ChanAt w'' c0 (x.clocks.map (.int .i64)) ∧ ChanAt w'' c1 (x.batches.map (·.1)) ∧ ChanAt w'' c2 (l.map (.int .i64)) ∧ ChanAt w'' c3 (x.lots.map (.int .i64)) := by
      intro w1 f1 l hl w'' hs
      have p5 := (h.pre hT (ci := c2) (by simp) f1).2.2.2.2
      exact ⟨h.h0.block ((hs c0 (by simp)).trans (p5 c0 l0 (n02))), h.h1.block ((hs c1 (by simp)).trans (p5 c1 l1 (n12))), hl.block (hs c2 (by simp)), h.h3.block ((hs c3 (by simp)).trans (p5 c3 l3 (Ne.symm n23)))⟩
    have hpos : ∀ n : Int, 0 ≤ n % o ∧ n % o < o := fun n => ⟨Int.emod_nonneg _ (by omega), Int.emod_lt_of_pos _ (by omega)⟩
    refine h.hears hT (ci := c2) (by simp) (r := (recAsk x 3 o).1) (x' := (recAsk x 3 o).2) ?_ ?_ ?_
    · cases hx : x.picks <;> simp [recAsk, hx]
    · cases hx : x.picks with
      | nil => simpa [recAsk, hx, RS.left] using hroom
      | cons n r =>
        have := hpos n
        have := frameS_size (bodyS 3 o.toNat (n % o).toNat) (bodyS_size _ _ _ (by omega) (by omega)).1
        simp [recAsk, hx, RS.left, ByteArray.size_append] at hroom ⊢
        omega
    · refine hearS_pick ((hcl 2).trans h.s2) hsz (sep sb (by simp) c2 (by simp)) x.picks (h.h2.block (Below.heap_alloc _ _ _ l2)) o (by omega) (by omega) ?_
      intro w1 f1 hc1
      cases hx : x.picks with
      | nil =>
        rw [hx] at hc1
        refine ⟨none, 0, 0, ByteArray.empty, by simp [recAsk, hx, noRep], by simpa [recAsk, hx, noRep] using answ_no w1 0 0 0, f1, ?_, by simpa [recAsk, hx, noRep] using ints_nil w1 _, by simp [recAsk, hx, noRep]⟩
        simpa [recAsk, hx] using chs w1 f1 _ hc1
      | cons n r =>
        rw [hx] at hc1
        have hp := hpos n
        have e1 : (o.toNat : Int) = o := by omega
        have e2 : ((n % o).toNat : Int) = n % o := by omega
        have ha := answ_two w1 3 o.toNat (n % o).toNat (.inl rfl) (by omega) (by omega)
        rw [e1, e2] at ha
        refine ⟨none, 0, 0, bodyS 3 o.toNat (n % o).toNat, by simp [recAsk, hx], by simpa [recAsk, hx] using ha, f1, ?_, by simpa [recAsk, hx] using ints_nil w1 _, by simp [recAsk, hx]⟩
        simpa [recAsk, hx] using chs w1 f1 _ hc1
  · -- a lot
    have chs : ∀ w1, Fr (fun k => k = c3) (w.alloc zero88) w1 (fun k => k = c3) → ∀ l : List Int, ChanAt w1 c3 (l.map (.int .i64)) → ∀ w'' : World, (∀ q, q ∈ [c0, c1, c2, c3] → w''.heap[q]? = w1.heap[q]?) → ChanAt w'' c0 (x.clocks.map (.int .i64)) ∧ ChanAt w'' c1 (x.batches.map (·.1)) ∧ ChanAt w'' c2 (x.picks.map (.int .i64)) ∧ ChanAt w'' c3 (l.map (.int .i64)) := by
      intro w1 f1 l hl w'' hs
      have p5 := (h.pre hT (ci := c3) (by simp) f1).2.2.2.2
      exact ⟨h.h0.block ((hs c0 (by simp)).trans (p5 c0 l0 (n03))), h.h1.block ((hs c1 (by simp)).trans (p5 c1 l1 (n13))), h.h2.block ((hs c2 (by simp)).trans (p5 c2 l2 (n23))), hl.block (hs c3 (by simp))⟩
    have hpos : ∀ n : Int, 0 ≤ n % o ∧ n % o < o := fun n => ⟨Int.emod_nonneg _ (by omega), Int.emod_lt_of_pos _ (by omega)⟩
    refine h.hears hT (ci := c3) (by simp) (r := (recAsk x 4 o).1) (x' := (recAsk x 4 o).2) ?_ ?_ ?_
    · cases hx : x.lots <;> simp [recAsk, hx]
    · cases hx : x.lots with
      | nil => simpa [recAsk, hx, RS.left] using hroom
      | cons n r =>
        have := hpos n
        have := frameS_size (bodyS 4 o.toNat (n % o).toNat) (bodyS_size _ _ _ (by omega) (by omega)).1
        simp [recAsk, hx, RS.left, ByteArray.size_append] at hroom ⊢
        omega
    · refine hearS_lot ((hcl 3).trans h.s3) hsz (sep sb (by simp) c3 (by simp)) x.lots (h.h3.block (Below.heap_alloc _ _ _ l3)) o (by omega) (by omega) ?_
      intro w1 f1 hc1
      cases hx : x.lots with
      | nil =>
        rw [hx] at hc1
        refine ⟨none, 0, 0, ByteArray.empty, by simp [recAsk, hx, noRep], by simpa [recAsk, hx, noRep] using answ_no w1 0 0 0, f1, ?_, by simpa [recAsk, hx, noRep] using ints_nil w1 _, by simp [recAsk, hx, noRep]⟩
        simpa [recAsk, hx] using chs w1 f1 _ hc1
      | cons n r =>
        rw [hx] at hc1
        have hp := hpos n
        have e1 : (o.toNat : Int) = o := by omega
        have e2 : ((n % o).toNat : Int) = n % o := by omega
        have ha := answ_two w1 4 o.toNat (n % o).toNat (.inr rfl) (by omega) (by omega)
        rw [e1, e2] at ha
        refine ⟨none, 0, 0, bodyS 4 o.toNat (n % o).toNat, by simp [recAsk, hx], by simpa [recAsk, hx] using ha, f1, ?_, by simpa [recAsk, hx] using ints_nil w1 _, by simp [recAsk, hx]⟩
        simpa [recAsk, hx] using chs w1 f1 _ hc1
end Go.Proofs.YtfmbebofllgmoaaGreatDoor
namespace Go.Proofs.YtfmbebofllgmoaaGreatDoor
open Go.RowKit
attribute [local go_sem ↓] Go.wp_at_zero Go.wp_at_succ

/-- A slice of values in memory, in a block of P. -/
def ValsIn (w : World) (v : Value) (l : List Value) (P : Nat → Prop) : Prop :=
  ∃ a c, v = .slice a l.length c ∧ (l = [] ∨ ∃ q off, a = some ⟨q, off, none⟩ ∧ P q ∧ ∀ i, i < l.length → w.cell? ⟨q, off + i, none⟩ = some (l.getD i undef))
theorem IntsIn.vals {w : World} {v : Value} {l : List Int} {P : Nat → Prop} (h : IntsIn w v l P) : ValsIn w v (l.map (.int .i64)) P := by
  obtain ⟨a, c, hv, hc⟩ := h
  refine ⟨a, c, by simpa using hv, hc.imp (by simp) fun ⟨q, off, e, hq, hcell⟩ => ⟨q, off, e, hq, fun i hi => ?_⟩⟩
  have hi' : i < l.length := by simpa using hi
  rw [hcell i hi']
  simp [List.getD, hi']
theorem ValsIn.block {w w' : World} {v : Value} {l : List Value} {P : Nat → Prop} (h : ValsIn w v l P) (hb : ∀ q, P q → w'.heap[q]? = w.heap[q]?) : ValsIn w' v l P := by
  obtain ⟨a, c, hv, hc⟩ := h
  refine ⟨a, c, hv, hc.imp id fun ⟨q, off, e, hq, hcell⟩ => ⟨q, off, e, hq, fun i hi => ?_⟩⟩
  rw [World.cell?_of_block (w := w) (a := ⟨q, off + i, none⟩) (hb q hq)]
  exact hcell i hi
theorem range_getD (l : List Value) : (List.range l.length).map (fun i => l.getD i undef) = l := by
  apply List.ext_getElem?
  intro i
  by_cases h : i < l.length
  · simp [h, List.getD]
  · rw [List.getElem?_eq_none (by simp; omega), List.getElem?_eq_none (by omega)]
theorem filled_list {w : World} {v : Value} {l : List Value} {P : Nat → Prop} (h : ValsIn w v l P) (hP : ∀ q, P q → q < w.heap.size) (hn : l.length ≤ 5000000) :
    Calls Tryz.prog 62 #[v] w fun e w' => e = .returned (.chan (some w.heap.size)) ∧ w' = w.alloc (.chan l.length l.toArray true l.length 0 false) := by
  obtain ⟨a, c, rfl, hc⟩ := h
  have := filled_any (w := w) a l.length c (fun i => l.getD i undef) hn (fun i hi => by
    rcases hc with rfl | ⟨q, off, e, hq, hcell⟩
    · simp at hi
    · exact ⟨q, off, e, hP q hq, hcell i hi⟩)
  rw [range_getD] at this
  exact this
theorem filledL_list {w : World} {v : Value} {l : List Value} {P : Nat → Prop} (h : ValsIn w v l P) (hP : ∀ q, P q → q < w.heap.size) (hn : l.length ≤ 5000000) :
    Calls Tryz.prog 63 #[v] w fun e w' => e = .returned (.chan (some w.heap.size)) ∧ w' = w.alloc (.chan l.length l.toArray true l.length 0 false) := by
  obtain ⟨a, c, rfl, hc⟩ := h
  have := filledL_any (w := w) a l.length c (fun i => l.getD i undef) hn (fun i hi => by
    rcases hc with rfl | ⟨q, off, e, hq, hcell⟩
    · simp at hi
    · exact ⟨q, off, e, hP q hq, hcell i hi⟩)
  rw [range_getD] at this
  exact this

/-- A closed channel's block. -/
def chanO (l : List Value) : Obj := .chan l.length l.toArray true l.length 0 false
def newW (w : World) (v0 v1 v2 v3 : Value) (l0 l1 l2 l3 : List Value) : World :=
  ((((((w.alloc (.cells #[v0, v1, v2, v3] 29)).drew.alloc (chanO l0)).alloc (chanO l1)).alloc (chanO l2)).alloc (chanO l3)).alloc (.cells #[.chan (some (w.heap.size + 1)), .chan (some (w.heap.size + 2)), .chan (some (w.heap.size + 3)), .chan (some (w.heap.size + 4))] 147))

set_option maxHeartbeats 2000000 in
set_option maxRecDepth 20000 in
theorem new_any {w : World} {v0 v1 v2 v3 : Value} {l0 l1 l2 l3 : List Value} {P : Nat → Prop} (hP : ∀ q, P q → q < w.heap.size) (h0 : ValsIn w v0 l0 P) (h1 : ValsIn w v1 l1 P) (h2 : ValsIn w v2 l2 P) (h3 : ValsIn w v3 l3 P)
    (n0 : l0.length ≤ 5000000) (n1 : l1.length ≤ 5000000) (n2 : l2.length ≤ 5000000) (n3 : l3.length ≤ 5000000) :
    Calls Tryz.prog 36 #[.agg #[v0, v1, v2, v3]] w fun e w' => e = .returned (.pointer (some ⟨w.heap.size + 5, 0, none⟩)) ∧ w' = newW w v0 v1 v2 v3 l0 l1 l2 l3 := by
  have hz1 : (w.alloc (.cells #[v0, v1, v2, v3] 29)).drew.heap.size = w.heap.size + 1 := by show (w.alloc _).heap.size = _; simp
  have s1 : ∀ q, P q → (w.alloc (.cells #[v0, v1, v2, v3] 29)).drew.heap[q]? = w.heap[q]? := fun q hq => Below.heap_alloc _ _ _ (hP q hq)
  have A0 := hide (filled_list (h0.block s1) (fun q hq => by rw [hz1]; have := hP q hq; omega) n0)
  rw [hz1] at A0
  have z2 : ((w.alloc (.cells #[v0, v1, v2, v3] 29)).drew.alloc (chanO l0)).heap.size = w.heap.size + 1 + 1 := by simp
  have s2 : ∀ q, P q → ((w.alloc (.cells #[v0, v1, v2, v3] 29)).drew.alloc (chanO l0)).heap[q]? = w.heap[q]? := fun q hq => (Below.heap_alloc _ _ _ (by rw [hz1]; have := hP q hq; omega)).trans (s1 q hq)
  have A1 := hide (filledL_list (h1.block s2) (fun q hq => by rw [z2]; have := hP q hq; omega) n1)
  rw [z2] at A1
  have z3 : (((w.alloc (.cells #[v0, v1, v2, v3] 29)).drew.alloc (chanO l0)).alloc (chanO l1)).heap.size = w.heap.size + 1 + 1 + 1 := by simp
  have s3 : ∀ q, P q → (((w.alloc (.cells #[v0, v1, v2, v3] 29)).drew.alloc (chanO l0)).alloc (chanO l1)).heap[q]? = w.heap[q]? := fun q hq => (Below.heap_alloc _ _ _ (by rw [z2]; have := hP q hq; omega)).trans (s2 q hq)
  have A2 := hide (filled_list (h2.block s3) (fun q hq => by rw [z3]; have := hP q hq; omega) n2)
  rw [z3] at A2
  have z4 : ((((w.alloc (.cells #[v0, v1, v2, v3] 29)).drew.alloc (chanO l0)).alloc (chanO l1)).alloc (chanO l2)).heap.size = w.heap.size + 1 + 1 + 1 + 1 := by simp
  have s4 : ∀ q, P q → ((((w.alloc (.cells #[v0, v1, v2, v3] 29)).drew.alloc (chanO l0)).alloc (chanO l1)).alloc (chanO l2)).heap[q]? = w.heap[q]? := fun q hq => (Below.heap_alloc _ _ _ (by rw [z3]; have := hP q hq; omega)).trans (s3 q hq)
  have A3 := hide (filled_list (h3.block s4) (fun q hq => by rw [z4]; have := hP q hq; omega) n3)
  rw [z4] at A3
  obtain ⟨a0, k0, rfl, _⟩ := h0
  obtain ⟨a1, k1, rfl, _⟩ := h1
  obtain ⟨a2, k2, rfl, _⟩ := h2
  obtain ⟨a3, k3, rfl, _⟩ := h3
  clear hz1 s1 z2 s2 z3 s3 z4 s4 hP
  rw [show Obj.chan l0.length l0.toArray true l0.length 0 false = chanO l0 from rfl] at A0
  rw [show Obj.chan l1.length l1.toArray true l1.length 0 false = chanO l1 from rfl] at A1
  rw [show Obj.chan l2.length l2.toArray true l2.length 0 false = chanO l2 from rfl] at A2
  rw [show Obj.chan l3.length l3.toArray true l3.length 0 false = chanO l3 from rfl] at A3
  generalize hO0 : chanO l0 = O0 at *
  generalize hO1 : chanO l1 = O1 at *
  generalize hO2 : chanO l2 = O2 at *
  generalize hO3 : chanO l3 = O3 at *
  have hN : newW w (.slice a0 l0.length k0) (.slice a1 l1.length k1) (.slice a2 l2.length k2) (.slice a3 l3.length k3) l0 l1 l2 l3 = ((((((w.alloc (.cells #[.slice a0 l0.length k0, .slice a1 l1.length k1, .slice a2 l2.length k2, .slice a3 l3.length k3] 29)).drew.alloc O0).alloc O1).alloc O2).alloc O3).alloc (.cells #[.chan (some (w.heap.size + 1)), .chan (some (w.heap.size + 2)), .chan (some (w.heap.size + 3)), .chan (some (w.heap.size + 4))] 147)) := by
    unfold newW
    rw [hO0, hO1, hO2, hO3]
  have HN := hide hN
  clear hN
  clear hO0 hO1 hO2 hO3
  go_enter Tryz.func36, Tryz.ntmps36
  go_wp2
  go_region_held3 (fun w' => w'.cell? ⟨w.heap.size, 0, none⟩ = some (.slice a0 l0.length k0) ∧ w'.cell? ⟨w.heap.size, 1, none⟩ = some (.slice a1 l1.length k1) ∧ w'.cell? ⟨w.heap.size, 2, none⟩ = some (.slice a2 l2.length k2) ∧ w'.cell? ⟨w.heap.size, 3, none⟩ = some (.slice a3 l3.length k3)) (simp [go_sem, World.cell?_alloc_past])
    (first
      | (go_at_call 63; refine (unhide A1).mono ?_; rintro e w' ⟨rfl, rfl⟩)
      | (go_at_call_of 62 (Value.slice a0 l0.length k0); refine (unhide A0).mono ?_; rintro e w' ⟨rfl, rfl⟩)
      | (go_at_call_of 62 (Value.slice a2 l2.length k2); refine (unhide A2).mono ?_; rintro e w' ⟨rfl, rfl⟩)
      | (go_at_call_of 62 (Value.slice a3 l3.length k3); refine (unhide A3).mono ?_; rintro e w' ⟨rfl, rfl⟩))
  all_goals
    go_wp2
    go_ret
    refine ⟨rfl, ?_⟩
    rw [unhide HN]
    rfl
end Go.Proofs.YtfmbebofllgmoaaGreatDoor
namespace Go.Proofs.YtfmbebofllgmoaaGreatDoor
open Go.RowKit

theorem pgok_of_ans {p : Pg} (h : Ans p.tn p.fn (1 + p.tn + p.fn) (allL p.sn p.tn p.tl p.fl) (allF p.tn p.sf p.tf p.ff) 0) : PgOk p := by
  rcases h with ⟨_, h⟩ | ⟨_, _, h⟩ | ⟨_, _, _, h⟩ | ⟨_, _, _, _, h⟩ | ⟨h1, h2, h3, h4, _⟩
  · omega
  · omega
  · omega
  · omega
  have L0 : allL p.sn p.tn p.tl p.fl 0 = p.sn := by simp [allL, cat]
  have L1 : ∀ i, i < p.tn → allL p.sn p.tn p.tl p.fl (1 + i) = p.tl i := fun i hi => by simp [allL, cat, hi]
  have L2 : ∀ i, allL p.sn p.tn p.tl p.fl (1 + p.tn + i) = p.fl i := fun i => by simp [allL, cat]; intro h; omega
  have F0 : allF p.tn p.sf p.tf p.ff 0 = p.sf := by simp [allF, cat]
  have F1 : ∀ i, i < p.tn → allF p.tn p.sf p.tf p.ff (1 + i) = p.tf i := fun i hi => by simp [allF, cat, hi]
  have F2 : ∀ i, allF p.tn p.sf p.tf p.ff (1 + p.tn + i) = p.ff i := fun i => by simp [allF, cat]; intro h; omega
  refine ⟨h1, h2, ?_, ?_, ?_, ?_, ?_, ?_⟩
  · have := h3 0 (by omega); rwa [L0] at this
  · intro i hi; have := h3 (1 + i) (by omega); rwa [L1 i hi] at this
  · intro i hi; have := h3 (1 + p.tn + i) (by omega); rwa [L2 i] at this
  · intro j hj; have := h4 0 j (by omega) (by rw [L0]; exact hj); rwa [F0] at this
  · intro i hi j hj; have := h4 (1 + i) j (by omega) (by rw [L1 i hi]; exact hj); rwa [F1 i hi] at this
  · intro i hi j hj; have := h4 (1 + p.tn + i) j (by omega) (by rw [L2 i]; exact hj); rwa [F2 i] at this

/-- How a run may end. -/
def FinOk (s : PS) : Prop := 0 ≤ s.fin ∧ s.fin ≤ 6
section
variable {σ : Type} {ask : σ → Int → Int → Rep × σ}
/-- A source's ends are ends. -/
def EndOk (ask : σ → Int → Int → Rep × σ) : Prop := ∀ x k o, 0 ≤ (ask x k o).1.e ∧ (ask x k o).1.e ≤ 6
theorem ckS_fin {s : PS} {R : Rep} (h : FinOk s) (hR : 0 ≤ R.e ∧ R.e ≤ 6) : FinOk (ckS s R) := by
  unfold ckS
  exact ite_ok (P := FinOk) (ite_ok (P := FinOk) ⟨by show (0 : Int) ≤ 4; omega, by show (4 : Int) ≤ 6; omega⟩ h) hR
theorem lotS_fin {s : PS} {R : Rep} (i : Nat) (h : FinOk s) (hR : 0 ≤ R.e ∧ R.e ≤ 6) : FinOk (lotS s R i) := ite_ok (P := FinOk) h hR
theorem hdS_fin {s : PS} {R : Rep} (h : FinOk s) (hR : 0 ≤ R.e ∧ R.e ≤ 6) : FinOk (hdS s R) := ite_ok (P := FinOk) h hR
theorem opM_fin (he : EndOk ask) (o : O3) (s : PS) (x : σ) (h : FinOk s) : FinOk (opM ask o s x).1 := by
  unfold opM
  have h1 := ckS_fin h (he x 1 0)
  repeat' (refine ite_ok (P := fun q : PS × σ => FinOk q.1) ?_ ?_)
  all_goals first
    | exact h
    | exact ite_ok (P := FinOk) h1 h1
    | exact lotS_fin _ h (he x 4 _)
    | exact ite_ok (P := FinOk) h h
    | exact ⟨by show (0 : Int) ≤ 1; omega, by show (1 : Int) ≤ 6; omega⟩
theorem hM_fin (he : EndOk ask) {f : Nat → O3} {n : Nat} : ∀ (k : Nat) (s : PS) (x : σ), FinOk s → FinOk (hM ask f n k s x).1
  | 0, _, _, h => h
  | k + 1, s, x, h => by
    unfold hM
    refine ite_ok (P := fun q : PS × σ => FinOk q.1) (ite_ok (P := fun q : PS × σ => FinOk q.1) ⟨by show (0 : Int) ≤ 3; omega, by show (3 : Int) ≤ 6; omega⟩ ?_) h
    exact hM_fin he k _ _ (opM_fin he _ _ _ h)
theorem frM_fin (he : EndOk ask) (p : Pg) : ∀ (l : List TM) (s : PS) (x : σ), FinOk s → FinOk (frM (gT ask p) l s x).1
  | [], _, _, h => h
  | t :: r, s, x, h => by
    unfold frM
    refine ite_ok (P := fun q : PS × σ => FinOk q.1) h (ite_ok (P := fun q : PS × σ => FinOk q.1) ?_ (frM_fin he p r s x h))
    exact frM_fin he p r _ _ (hM_fin he _ _ _ h)
theorem pk_fin (he : EndOk ask) (n : Nat) (s : PS) (x : σ) (h : FinOk s) : FinOk (pk ask n s x).2.2.1 := by
  unfold pk
  exact ite_ok (P := fun q : Int × Bool × PS × σ => FinOk q.2.2.1) h (hdS_fin h (he x 3 n))
theorem wk1_fin (he : EndOk ask) (p : Pg) (z : Int) (s : PS) (x : σ) (h : FinOk s) : FinOk (wk1 (gF ask p) z s x).1 := by
  unfold wk1
  exact ite_ok (P := fun q : PS × σ => FinOk q.1) (hM_fin he _ _ _ h) h
theorem wkM_fin (he : EndOk ask) (p : Pg) : ∀ (k : Nat) (l : List Int) (s : PS) (x : σ), FinOk s → FinOk (wkM ask (gF ask p) k l s x).1
  | 0, _, _, _, h => h
  | k + 1, l, s, x, h => by
    have h1 := pk_fin he l.length s x h
    unfold wkM
    refine ite_ok (P := fun q : PS × σ => FinOk q.1) h (ite_ok (P := fun q : PS × σ => FinOk q.1) ?_ h1)
    exact wkM_fin he p k _ _ _ (wk1_fin he p _ _ _ h1)
theorem wakeM_fin (he : EndOk ask) (p : Pg) (s : PS) (x : σ) (h : FinOk s) : FinOk (wakeM ask p s x).1 := by
  unfold wakeM
  exact ite_ok (P := fun q : PS × σ => FinOk q.1) (wkM_fin he p _ _ _ _ h) (he x 2 0)
theorem turnM_fin (he : EndOk ask) (p : Pg) (s : PS) (x : σ) (h : FinOk s) : FinOk (turnM ask p s x).1 := by
  unfold turnM
  have h1 := ckS_fin h (he x 1 0)
  have h2 := frM_fin he p (dueS (ckS s (ask x 1 0).1)) _ (ask x 1 0).2 h1
  exact ite_ok (P := fun q : PS × σ => FinOk q.1) ⟨by show (0 : Int) ≤ 2; omega, by show (2 : Int) ≤ 6; omega⟩ (ite_ok (P := fun q : PS × σ => FinOk q.1) (ite_ok (P := fun q : PS × σ => FinOk q.1) (wakeM_fin he p _ _ h2) h2) h1)
theorem turnsM_fin (he : EndOk ask) (p : Pg) : ∀ (k : Nat) (s : PS) (x : σ), FinOk s → FinOk (turnsM ask p k s x).1
  | 0, _, _, h => h
  | k + 1, s, x, h => by
    unfold turnsM
    exact ite_ok (P := fun q : PS × σ => FinOk q.1) (turnsM_fin he p k _ _ (turnM_fin he p s x h)) h
theorem runM_fin (he : EndOk ask) (p : Pg) (k : Nat) (f : Int) (x : σ) : FinOk (runM ask p k f x).1 := by
  unfold runM
  exact turnsM_fin he p k _ _ (hM_fin he _ _ _ ⟨by show (0 : Int) ≤ 0; omega, by show (0 : Int) ≤ 6; omega⟩)
end
theorem recAsk_end : EndOk recAsk := by
  intro x k o
  unfold recAsk
  split
  · split <;> simp [noRep]
  · split
    · split <;> simp [noRep]
    · split
      · split <;> simp [noRep]
      · split <;> simp [noRep]
end Go.Proofs.YtfmbebofllgmoaaGreatDoor
namespace Go.Proofs.YtfmbebofllgmoaaGreatDoor
open Go.RowKit

theorem six (h : Array Obj) (a b c d e f : Obj) : ((((((h.push a).push b).push c).push d).push e).push f)[h.size + 1]? = some b ∧ ((((((h.push a).push b).push c).push d).push e).push f)[h.size + 2]? = some c ∧ ((((((h.push a).push b).push c).push d).push e).push f)[h.size + 3]? = some d ∧
    ((((((h.push a).push b).push c).push d).push e).push f)[h.size + 4]? = some e ∧ ((((((h.push a).push b).push c).push d).push e).push f)[h.size + 5]? = some f := by
  refine ⟨?_, ?_, ?_, ?_, ?_⟩
  · rw [Array.getElem?_push, if_neg (by simp), Array.getElem?_push, if_neg (by simp), Array.getElem?_push, if_neg (by simp), Array.getElem?_push, if_neg (by simp), Array.getElem?_push, if_pos (by simp)]
  · rw [Array.getElem?_push, if_neg (by simp), Array.getElem?_push, if_neg (by simp), Array.getElem?_push, if_neg (by simp), Array.getElem?_push, if_pos (by simp)]
  · rw [Array.getElem?_push, if_neg (by simp), Array.getElem?_push, if_neg (by simp), Array.getElem?_push, if_pos (by simp)]
  · rw [Array.getElem?_push, if_neg (by simp), Array.getElem?_push, if_pos (by simp)]
  · rw [Array.getElem?_push, if_pos (by simp)]

theorem newW_facts (w : World) (v0 v1 v2 v3 : Value) (l0 l1 l2 l3 : List Value) : (newW w v0 v1 v2 v3 l0 l1 l2 l3).heap.size = w.heap.size + 6 ∧ Fr (fun _ => False) w (newW w v0 v1 v2 v3 l0 l1 l2 l3) (fun _ => False) ∧
    (newW w v0 v1 v2 v3 l0 l1 l2 l3).heap[w.heap.size + 1]? = some (chanO l0) ∧ (newW w v0 v1 v2 v3 l0 l1 l2 l3).heap[w.heap.size + 2]? = some (chanO l1) ∧ (newW w v0 v1 v2 v3 l0 l1 l2 l3).heap[w.heap.size + 3]? = some (chanO l2) ∧ (newW w v0 v1 v2 v3 l0 l1 l2 l3).heap[w.heap.size + 4]? = some (chanO l3) ∧
    (newW w v0 v1 v2 v3 l0 l1 l2 l3).heap[w.heap.size + 5]? = some (.cells #[.chan (some (w.heap.size + 1)), .chan (some (w.heap.size + 2)), .chan (some (w.heap.size + 3)), .chan (some (w.heap.size + 4))] 147) := by
  have e : (newW w v0 v1 v2 v3 l0 l1 l2 l3).heap = (((((w.heap.push (.cells #[v0, v1, v2, v3] 29)).push (chanO l0)).push (chanO l1)).push (chanO l2)).push (chanO l3)).push (.cells #[.chan (some (w.heap.size + 1)), .chan (some (w.heap.size + 2)), .chan (some (w.heap.size + 3)), .chan (some (w.heap.size + 4))] 147) := rfl
  refine ⟨by rw [e]; simp, (((((((Fr.refl _ w).alloc _).drew).alloc _).alloc _).alloc _).alloc _).alloc _, ?_⟩
  rw [e]
  exact six w.heap _ _ _ _ _ _

/-- The blocks of a recorder that was made behind n blocks; the lists that it was lent. -/
def recT (n : Nat) (L : Nat → Prop) (q : Nat) : Prop := (n + 1 ≤ q ∧ q ≤ n + 8) ∨ L q

theorem rec_start {w w2 : World} {v0 v1 v2 v3 v : Value} {lc lp ll : List Int} {bs : List (Value × List Int)} {L : Nat → Prop}
    (hL : ∀ q, L q → q < w.heap.size) (hbs : ∀ p, p ∈ bs → IntsIn w p.1 p.2 L ∧ p.2.length ≤ 100000000) (hroom : lc.length + bs.length + lp.length + ll.length ≤ 17000000)
    {W1 : World} (hW1 : W1 = newW w v0 v1 v2 v3 (lc.map (.int .i64)) (bs.map (·.1)) (lp.map (.int .i64)) (ll.map (.int .i64)))
    (hlog : LogAt w2 (W1.heap.size + 1) W1.heap.size v headS) (hf : Fr (fun _ => False) W1 w2 (fun _ => False)) (hv : ∀ k, own v k → k = W1.heap.size) (hz : w2.heap.size = W1.heap.size + 2) :
    RecA (w.heap.size + 8) L (fun q => w.heap[q]?) (recT w.heap.size L) (w2.alloc (.cells #[.pointer (some ⟨w.heap.size + 5, 0, none⟩), .pointer (some ⟨w.heap.size + 7, 0, none⟩)] 95)) ⟨lc, bs, lp, ll, headS⟩ ∧
      Fr (fun _ => False) w (w2.alloc (.cells #[.pointer (some ⟨w.heap.size + 5, 0, none⟩), .pointer (some ⟨w.heap.size + 7, 0, none⟩)] 95)) (fun _ => False) ∧
      (w2.alloc (.cells #[.pointer (some ⟨w.heap.size + 5, 0, none⟩), .pointer (some ⟨w.heap.size + 7, 0, none⟩)] 95)).heap.size = w.heap.size + 9 ∧ w2.heap.size = w.heap.size + 8 := by
  obtain ⟨f0, f1, f2, f3, f4, f5, f6⟩ := newW_facts w v0 v1 v2 v3 (lc.map (.int .i64)) (bs.map (·.1)) (lp.map (.int .i64)) (ll.map (.int .i64))
  rw [← hW1] at f0 f1 f2 f3 f4 f5 f6
  rw [f0] at hlog hv hz
  have hz3 : (w2.alloc (.cells #[.pointer (some ⟨w.heap.size + 5, 0, none⟩), .pointer (some ⟨w.heap.size + 7, 0, none⟩)] 95)).heap.size = w.heap.size + 9 := by simp; omega
  have same : ∀ q, q < w.heap.size + 6 → (w2.alloc (.cells #[.pointer (some ⟨w.heap.size + 5, 0, none⟩), .pointer (some ⟨w.heap.size + 7, 0, none⟩)] 95)).heap[q]? = W1.heap[q]? := fun q hq => (Below.heap_alloc _ _ _ (by omega)).trans (hf.same q (by omega) (fun h => h))
  have same2 : ∀ q, q < w2.heap.size → (w2.alloc (.cells #[.pointer (some ⟨w.heap.size + 5, 0, none⟩), .pointer (some ⟨w.heap.size + 7, 0, none⟩)] 95)).heap[q]? = w2.heap[q]? := fun q hq => Below.heap_alloc _ _ _ hq
  have hnew := heap_alloc_new w2 (.cells #[.pointer (some ⟨w.heap.size + 5, 0, none⟩), .pointer (some ⟨w.heap.size + 7, 0, none⟩)] 95)
  rw [show w2.heap.size = w.heap.size + 8 by omega] at hnew
  have hfr : Fr (fun _ => False) w (w2.alloc (.cells #[.pointer (some ⟨w.heap.size + 5, 0, none⟩), .pointer (some ⟨w.heap.size + 7, 0, none⟩)] 95)) (fun _ => False) := (f1.trans hf).alloc _
  have hsrc := (same (w.heap.size + 5) (by omega)).trans f6
  refine ⟨⟨w.heap.size + 5, w.heap.size + 7, w.heap.size + 1, w.heap.size + 2, w.heap.size + 3, w.heap.size + 4, w.heap.size + 6, v, ?_⟩, hfr, hz3, by omega⟩
  refine ⟨cell_of_row _ _ 0 _ 95 (0, 0) hnew, cell_of_row _ _ 1 _ 95 (0, 0) hnew, cell_of_row _ _ 0 _ 147 (0, 0) hsrc, cell_of_row _ _ 1 _ 147 (0, 0) hsrc, cell_of_row _ _ 2 _ 147 (0, 0) hsrc, cell_of_row _ _ 3 _ 147 (0, 0) hsrc,
    ⟨_, _, _, (same _ (by omega)).trans f2⟩, ⟨_, _, _, (same _ (by omega)).trans f3⟩, ⟨_, _, _, (same _ (by omega)).trans f4⟩, ⟨_, _, _, (same _ (by omega)).trans f5⟩, ?_, by omega, ?_, ?_, ?_, ?_, ?_, ?_, ?_⟩
  · refine hlog.block (fun q hq => same2 q ?_) (by rw [hz3]; omega)
    rcases hq with rfl | hq
    · omega
    · have := hv q hq; omega
  · simp
  · intro q hq
    have hq' : q = w.heap.size + 8 ∨ q = w.heap.size + 5 ∨ q = w.heap.size + 7 ∨ q = w.heap.size + 1 ∨ q = w.heap.size + 2 ∨ q = w.heap.size + 3 ∨ q = w.heap.size + 4 := by simpa using hq
    refine ⟨.inl (by omega), fun h => by have := hL q h; omega, fun h => by have := hv q h; omega⟩
  · intro q hq
    have := hv q hq
    exact ⟨.inl (by omega), fun h => by have := hL q h; omega⟩
  · exact fun q hq => .inr hq
  · exact fun q hq => hfr.same q (hL q hq) (fun h => h)
  · exact fun p hp => ⟨(hbs p hp).1.block (fun q hq => hfr.same q (hL q hq) (fun h => h)), (hbs p hp).2⟩
  · have hs3 : headS.size = 3 := rfl
    show headS.size + 40 * (lc.length + bs.length + lp.length + ll.length) ≤ 700000000
    omega
end Go.Proofs.YtfmbebofllgmoaaGreatDoor
namespace Go.Proofs.YtfmbebofllgmoaaGreatDoor
open Go.RowKit
attribute [local go_sem ↓] Go.wp_at_zero Go.wp_at_succ

/-- What a run by a world ends with. -/
def recM (p : Pg) (f : Int) (lc : List Int) (bs : List (Value × List Int)) (lp ll : List Int) : PS × RS := runM recAsk p (lc.length + 1) f ⟨lc, bs, lp, ll, headS⟩
/-- The log of a run. -/
def recLog (r : PS × RS) : ByteArray := r.2.log ++ frameS (bodyS 5 0 r.1.fin.toNat)
def finV (s : PS) : Value := .agg #[.int .i64 s.fin, .int .i64 (s.reg 0), .int .i64 (s.reg 1), .int .i64 (s.reg 2), .int .i64 (s.reg 3), .int .i64 s.clock, .int .i64 s.heard]
/-- Record's answer. -/
def RecPost (w : World) (p : Pg) (f : Int) (lc : List Int) (bs : List (Value × List Int)) (lp ll : List Int) (e : Ending) (w' : World) : Prop :=
  Fr (fun _ => False) w w' (fun _ => False) ∧ ∃ x, Ans p.tn p.fn (1 + p.tn + p.fn) (allL p.sn p.tn p.tl p.fl) (allF p.tn p.sf p.tf p.ff) x ∧
    ((x ≠ 0 ∧ e = .returned (.tuple #[.string ⟨#[]⟩, .slice none 0 0, .agg #[.int .i64 0, .int .i64 0, .int .i64 0, .int .i64 0, .int .i64 0, .int .i64 0, .int .i64 0], .int .i64 x])) ∨
     (x = 0 ∧ ∃ vt, e = .returned (.tuple #[.string (recLog (recM p f lc bs lp ll)), vt, finV (recM p f lc bs lp ll).1, .int .i64 0]) ∧ w'.ownsRow w.heap.size 72 3 vt (recM p f lc bs lp ll).1.trace.length (flatE (recM p f lc bs lp ll).1.trace)))

theorem Fr.of_below {w w' : World} (h : Below w.heap.size w w') : Fr (fun _ => False) w w' (fun _ => False) := ⟨h.os, h.tape, h.output, h.size, fun k hk _ => h.block k hk, fun _ _ h => h⟩

/-- Seven cells are written over. -/
theorem out7 {W : World} {g : Nat} {a0 a1 a2 a3 a4 a5 a6 : Value} (h : W.heap[g]? = some (.cells #[a0, a1, a2, a3, a4, a5, a6] 37)) (x0 x1 x2 x3 x4 x5 x6 : Value) :
    (((((((W.setCell ⟨g, 0, none⟩ x0).setCell ⟨g, 1, none⟩ x1).setCell ⟨g, 2, none⟩ x2).setCell ⟨g, 3, none⟩ x3).setCell ⟨g, 4, none⟩ x4).setCell ⟨g, 5, none⟩ x5).setCell ⟨g, 6, none⟩ x6).heap[g]? = some (.cells #[x0, x1, x2, x3, x4, x5, x6] 37) := by
  have st : ∀ (V : World) (c : Array Value) (i : Nat) (x : Value), V.heap[g]? = some (.cells c 37) → (V.setCell ⟨g, i, none⟩ x).heap[g]? = some (.cells (c.setIfInBounds i x) 37) := by
    intro V c i x hV
    have h0 := setRow_heap V g c (c.setIfInBounds i x) 37 (0, 0) hV
    rw [← setCell_eq_setRow V g i c 37 (0, 0) x hV] at h0
    exact h0
  have h7 := st _ _ 6 x6 (st _ _ 5 x5 (st _ _ 4 x4 (st _ _ 3 x3 (st _ _ 2 x2 (st _ _ 1 x1 (st _ _ 0 x0 h))))))
  simp only [List.setIfInBounds_toArray, List.set] at h7
  exact h7
theorem out7_fr {S S' : Nat → Prop} {w W : World} (h : Fr S w W S') {g : Nat} (hg : S g ∨ w.heap.size ≤ g) (x0 x1 x2 x3 x4 x5 x6 : Value) :
    Fr S w (((((((W.setCell ⟨g, 0, none⟩ x0).setCell ⟨g, 1, none⟩ x1).setCell ⟨g, 2, none⟩ x2).setCell ⟨g, 3, none⟩ x3).setCell ⟨g, 4, none⟩ x4).setCell ⟨g, 5, none⟩ x5).setCell ⟨g, 6, none⟩ x6) S' :=
  ((((((h.setCell _ _ hg).setCell _ _ hg).setCell _ _ hg).setCell _ _ hg).setCell _ _ hg).setCell _ _ hg).setCell _ _ hg
theorem three (h : Array Obj) (a b c : Obj) : (((h.push a).push b).push c)[h.size]? = some a ∧ (((h.push a).push b).push c)[h.size + 1]? = some b ∧ (((h.push a).push b).push c)[h.size + 2]? = some c := by
  refine ⟨?_, ?_, ?_⟩
  · rw [Array.getElem?_push, if_neg (by simp; omega), Array.getElem?_push, if_neg (by simp), Array.getElem?_push, if_pos (by simp)]
  · rw [Array.getElem?_push, if_neg (by simp), Array.getElem?_push, if_pos (by simp)]
  · rw [Array.getElem?_push, if_pos (by simp)]

theorem ns' {n1 k : Nat} {L : Nat → Prop} (hl : ¬ L k) (h : recT n1 L k) (hk : k < n1) : False := h.elim (fun h => by omega) hl
/-- What is left of memory. -/
theorem rec_end {n1 rb sb lb c0 c1 c2 c3 B B' b : Nat} {v' v6 vt : Value} {pv : Nat → Value} {L S' T' : Nat → Prop} {w w1 w3 w4 w6 : World} {s' : PS} {x' : RS} {o : Obj}
    (hri : RI (RecA rb L (fun q => w1.heap[q]?)) B S' w4 b pv vt T' s' x') (hrc : RecAt rb sb lb c0 c1 c2 c3 B' v' L (fun q => w1.heap[q]?) T' w4 x') (hfr : Fr (recT n1 L) w3 w4 S') (hn1 : w.heap.size + 3 ≤ n1)
    (f1 : Fr (fun _ => False) w w1 (fun _ => False)) (f3 : Fr (fun _ => False) w1 w3 (fun _ => False)) (hz3 : n1 ≤ w3.heap.size) (f6 : Fr (lgS lb v') ((w4.alloc o).drew) w6 (lgS lb v6)) :
    Fr (fun _ => False) w w6 (fun _ => False) ∧ w6.ownsRow w.heap.size 72 3 vt s'.trace.length (flatE s'.trace) ∧ (∀ q, own vt q → q ≠ w.heap.size + 1 + 1) := by
  have hlgT : ∀ q, lgS lb v' q → T' q ∧ ¬ L q := fun q h => h.elim (fun h => by rw [h]; exact ⟨(hrc.inT lb (by simp)).1, (hrc.inT lb (by simp)).2.1⟩) (fun h => hrc.vT q h)
  have hS : ∀ q, q < n1 → S' q → L q := fun q h1 h2 => (hfr.old q (by omega) h2).elim (fun h => by omega) id
  have h46 : Fr (lgS lb v') w4 w6 (lgS lb v6) := Fr.unalloc (o := o) ⟨f6.os, f6.tape, f6.output, f6.size, f6.same, f6.old⟩
  have f13 := f1.trans f3
  have hvt : ∀ q, own vt q → w.heap.size ≤ q ∧ q ≠ w.heap.size + 1 + 1 ∧ ¬ lgS lb v' q ∧ q < w4.heap.size := by
    intro q hq
    obtain ⟨h1, _, h3⟩ := hri.inV q hq
    have hnl : ¬ L q := fun h => h3 (hrc.lT q h)
    have hge : n1 ≤ q := by
      rcases Nat.lt_or_ge q n1 with h | h
      · exact absurd (hS q h h1) hnl
      · exact h
    exact ⟨by omega, by omega, fun h => h3 (hlgT q h).1, (hri.bound q h1).2⟩
  refine ⟨⟨h46.os.trans (hfr.os.trans f13.os), h46.tape.trans (hfr.tape.trans f13.tape), h46.output.trans (hfr.output.trans f13.output), Nat.le_trans f13.size (Nat.le_trans hfr.size h46.size), ?_, fun _ _ h => h⟩, ?_, fun q hq => (hvt q hq).2.1⟩
  · intro k hk _
    have hk3 : k < w3.heap.size := Nat.lt_of_lt_of_le hk f13.size
    have hk4 : k < w4.heap.size := Nat.lt_of_lt_of_le hk3 hfr.size
    by_cases hl : L k
    · exact (h46.same k hk4 (fun h => (hlgT k h).2 hl)).trans ((hrc.lent k hl).trans (f1.same k hk (fun h => h)))
    · have ns : ¬ S' k := fun h => hl (hS k (by omega) h)
      exact (h46.same k hk4 (fun h => ns (hri.inT k (hlgT k h).1).1)).trans ((hfr.same k hk3 (fun h => ns' hl h (by omega))).trans (f13.same k hk (fun h => h)))
  · have h5 := ownsRow_of_block (w' := w6) hri.row (fun q hq => h46.same q (hvt q hq).2.2.2 (hvt q hq).2.2.1)
    refine ⟨h5.1, ?_⟩
    rcases h5.2 with h | ⟨g, cap, cur, e1, e2, r⟩
    · exact .inl h
    · exact .inr ⟨g, cap, cur, e1, (hvt g (by rw [e1]; rfl)).1, r⟩

set_option maxHeartbeats 4000000 in
set_option maxRecDepth 100000 in
theorem record_any {w w0 : World} (hbel : Below w0.heap.size w0 w) (htab : TabIn w) {p1 p2 p3 : Value} {p : Pg} (hv : PgAt w0 (pvOf p1 p2 p3 undef) p) (f : Int)
    {v0 v1 v2 v3 : Value} {lc lp ll : List Int} {bs : List (Value × List Int)} {L P : Nat → Prop} (hP : ∀ q, P q → q < w.heap.size) (hL : ∀ q, L q → w0.heap.size ≤ q ∧ q < w.heap.size)
    (h0 : IntsIn w v0 lc P) (h1 : ValsIn w v1 (bs.map (·.1)) P) (h2 : IntsIn w v2 lp P) (h3 : IntsIn w v3 ll P) (hbs : ∀ b, b ∈ bs → IntsIn w b.1 b.2 L ∧ b.2.length ≤ 100000000)
    (n0 : lc.length ≤ 4000000) (n1 : bs.length ≤ 4000000) (n2 : lp.length ≤ 4000000) (n3 : ll.length ≤ 4000000) :
    Calls Tryz.prog 22 #[.agg #[p1, p2, p3], .agg #[v0, v1, v2, v3], .int .i64 f] w (RecPost w p f lc bs lp ll) := by
  have hB3 : Below w.heap.size w (((w.alloc (.cells #[p1, p2, p3] 33)).alloc (.cells #[v0, v1, v2, v3] 29)).alloc (.cells #[.int .i64 0, .int .i64 0, .int .i64 0, .int .i64 0, .int .i64 0, .int .i64 0, .int .i64 0] 37)) := bl3 _ _ _
  have hw0 : w0.heap.size ≤ w.heap.size := hbel.size
  have hck := pcheck_any p1 p2 p3 p.sn p.tn p.fn p.sf p.tl p.fl p.tf p.ff _ (tabIn_below hB3 (tabIn_lt htab) htab) (opsIn_below hB3 (opsIn_below hbel hv.s)) (handsIn_below hB3 (handsIn_below hbel hv.t)) (handsIn_below hB3 (handsIn_below hbel hv.f))
  have HCK := hide hck
  clear hck
  generalize hR : RecPost w p f lc bs lp ll = R
  have HR := hide hR
  clear hR
  go_enter Tryz.func22, Tryz.ntmps22
  go_wp2_with fail
  go_at_call 27
  refine (unhide HCK).mono ?_
  rintro e w1 ⟨x, rfl, hx, hb1⟩
  obtain ⟨t0, t1, t2⟩ := three w.heap (.cells #[p1, p2, p3] 33) (.cells #[v0, v1, v2, v3] 29) (.cells #[.int .i64 0, .int .i64 0, .int .i64 0, .int .i64 0, .int .i64 0, .int .i64 0, .int .i64 0] 37)
  have hsz3 : (((w.alloc (.cells #[p1, p2, p3] 33)).alloc (.cells #[v0, v1, v2, v3] 29)).alloc (.cells #[.int .i64 0, .int .i64 0, .int .i64 0, .int .i64 0, .int .i64 0, .int .i64 0, .int .i64 0] 37)).heap.size = w.heap.size + 3 := by simp
  have b34 := (hb1.block w.heap.size (by omega)).trans t0
  have b38 := (hb1.block (w.heap.size + 1) (by omega)).trans t1
  have b76 := (hb1.block (w.heap.size + 2) (by omega)).trans t2
  have hz1 : w.heap.size + 3 ≤ w1.heap.size := by rw [← hsz3]; exact hb1.size
  have hf1 : Fr (fun _ => False) w w1 (fun _ => False) := (Fr.of_below hB3).trans (Fr.of_below hb1)
  have c34 := fun j => cell_of_row w1 w.heap.size j _ 33 (0, 0) b34
  have c38 := fun j => cell_of_row w1 (w.heap.size + 1) j _ 29 (0, 0) b38
  have c76 := fun j => cell_of_row w1 (w.heap.size + 2) j _ 37 (0, 0) b76
  have z76 := fun j => frozen_rowE b76 j
  have B34 := hide b34
  have B76 := hide b76
  have HX := hide hx
  have HF1 := hide hf1
  clear t0 t1 t2 hsz3 b34 b38 b76 hb1 hx hf1 HCK hB3
  by_cases hx0 : x = 0
  · subst hx0
    have ho := pgok_of_ans (unhide HX)
    have hf1 := unhide HF1
    have pr : ∀ q, P q → w1.heap[q]? = w.heap[q]? := fun q hq => hf1.same q (hP q hq) (fun h => h)
    have h48 := new_any (w := w1) (P := P) (fun q hq => by have := hP q hq; omega) (h0.vals.block pr) (h1.block pr) (h2.vals.block pr) (h3.vals.block pr) (by simpa using Nat.le_trans n0 (by omega)) (by simpa using Nat.le_trans n1 (by omega)) (by simpa using Nat.le_trans n2 (by omega)) (by simpa using Nat.le_trans n3 (by omega))
    have H48 := hide h48
    have HO := hide ho
    clear h48 pr hf1 ho
    go_wp2_with fail
    go_at_call 36
    refine (unhide H48).mono ?_
    rintro e W1 ⟨rfl, hW1⟩
    obtain ⟨f0, fW, _⟩ := newW_facts w1 v0 v1 v2 v3 (lc.map (.int .i64)) (bs.map (·.1)) (lp.map (.int .i64)) (ll.map (.int .i64))
    rw [← hW1] at f0 fW
    have h49 : Calls Tryz.prog 37 #[] W1 fun e w' => ∃ v, e = .returned (.pointer (some ⟨w1.heap.size + 7, 0, none⟩)) ∧ LogAt w' (W1.heap.size + 1) W1.heap.size v headS ∧ Fr (fun _ => False) W1 w' (fun _ => False) ∧ (∀ k, own v k → k = W1.heap.size) ∧ w'.heap.size = W1.heap.size + 2 := by
      refine (newWriter_any W1).mono ?_
      rintro e w' ⟨v, rfl, r⟩
      exact ⟨v, by rw [f0], r⟩
    have HW1 := hide hW1
    have F0 := hide f0
    have FW := hide fW
    have H49 := hide h49
    clear hW1 f0 fW h49 H48
    go_wp2_with fail
    go_at_call 37
    refine (unhide H49).mono ?_
    rintro e w2 ⟨v, rfl, lg, fr2, hown, hz2⟩
    have hL1 : ∀ q, L q → q < w1.heap.size := fun q hq => by have := hL q hq; omega
    have hsame1 : ∀ q, q < w.heap.size → w1.heap[q]? = w.heap[q]? := fun q hq => (unhide HF1).same q hq (fun h => h)
    obtain ⟨hrec, hf3, hz3, hz2'⟩ := rec_start (w := w1) (L := L) hL1 (fun b hb => ⟨(hbs b hb).1.block (fun q hq => hsame1 q (hL q hq).2), (hbs b hb).2⟩) (by omega) (unhide HW1) lg fr2 hown hz2
    have hf2 : Fr (fun _ => False) w1 w2 (fun _ => False) := (unhide FW).trans fr2
    have d34 := fun j => cell_of_row w2 w.heap.size j _ 33 (0, 0) ((hf2.same _ (by omega) (fun h => h)).trans (unhide B34))
    have e34 := fun j => cell_of_row (w2.alloc (.cells #[.pointer (some ⟨w1.heap.size + 5, 0, none⟩), .pointer (some ⟨w1.heap.size + 7, 0, none⟩)] 95)) w.heap.size j _ 33 (0, 0) ((hf3.same _ (by omega) (fun h => h)).trans (unhide B34))
    have hne1 : w.heap.size ≠ w2.heap.size := by omega
    have hne1' : ¬ w2.heap.size = w.heap.size := by omega
    have hbel3 : Below w0.heap.size w0 (w2.alloc (.cells #[.pointer (some ⟨w1.heap.size + 5, 0, none⟩), .pointer (some ⟨w1.heap.size + 7, 0, none⟩)] 95)) := hbel.trans (((unhide HF1).trans hf3).below (B := w0.heap.size) (fun k hk => hk.elim) hw0)
    have h50 := run_any (recA_law (w1.heap.size + 8) L (fun q => w1.heap[q]?)) (recA_hear (w1.heap.size + 8) L (fun q => w1.heap[q]?)) mayR_ok recAsk_ok (w0 := w0) (B := w0.heap.size) (T := recT w1.heap.size L) rfl hbel3 (fun k hk => by
      rw [hz3]
      rcases hk with hk | hk
      · omega
      · have := hL k hk; omega) hrec p1 p2 p3 (p := p) ⟨hv.s, hv.t, hv.f⟩ (unhide HO) f (by show lc.length ≤ 5000000; omega)
    have H50 := hide h50
    have HB76 := hide ((hf3.same (w.heap.size + 2) (by omega) (fun h => h)).trans (unhide B76))
    have HF3 := hide hf3
    have HZ3 := hide hz3
    have HZ2 := hide hz2'
    clear lg fr2 hown hz2 H49 hf2 hrec hf3 hz3 h50 hbel3 hz2'
    rw [← unhide HZ2] at H50
    go_wp2_with fail
    go_at_call 29
    refine (unhide H50).mono ?_
    rintro e w4 ⟨vt, s', S', T', b, rfl, hs, hri, hfr⟩
    change s' = (recM p f lc bs lp ll).1 at hs
    change RI _ _ S' w4 b _ vt T' s' (recM p f lc bs lp ll).2 at hri
    have hfin := runM_fin recAsk_end p (lc.length + 1) f ⟨lc, bs, lp, ll, headS⟩
    change FinOk (recM p f lc bs lp ll).1 at hfin
    rw [← hs] at hfin
    have hpost : RecPost w p f lc bs lp ll = fun e w' => Fr (fun _ => False) w w' (fun _ => False) ∧ ∃ x, Ans p.tn p.fn (1 + p.tn + p.fn) (allL p.sn p.tn p.tl p.fl) (allF p.tn p.sf p.tf p.ff) x ∧
        ((x ≠ 0 ∧ e = .returned (.tuple #[.string ⟨#[]⟩, .slice none 0 0, .agg #[.int .i64 0, .int .i64 0, .int .i64 0, .int .i64 0, .int .i64 0, .int .i64 0, .int .i64 0], .int .i64 x])) ∨
        (x = 0 ∧ ∃ vt, e = .returned (.tuple #[.string (recLog (recM p f lc bs lp ll)), vt, finV s', .int .i64 0]) ∧ w'.ownsRow w.heap.size 72 3 vt s'.trace.length (flatE s'.trace))) := by
      rw [hs]; rfl
    rw [show recLog (recM p f lc bs lp ll) = (recM p f lc bs lp ll).2.log ++ frameS (bodyS 5 0 s'.fin.toNat) by rw [hs]; rfl] at hpost
    rw [hpost] at HR
    clear hpost hs
    generalize (recM p f lc bs lp ll).2 = x' at *
    obtain ⟨sb, lb, c0, c1, c2, c3, B', v', hrc⟩ := hri.src
    have hz4 : w2.heap.size < w4.heap.size := Nat.lt_of_lt_of_le (by simp) hfr.size
    have hTn : ∀ q, q < w1.heap.size + 1 → recT w1.heap.size L q → L q := fun q h1 h2 => h2.elim (fun h => by omega) id
    have hS2 : ∀ q, q < w1.heap.size + 1 → S' q → L q := fun q h1 h2 => hTn q h1 (hfr.old q (by rw [unhide HZ3]; omega) h2)
    have hn2 : ¬ S' (w.heap.size + 1 + 1) := fun h => by have := hL _ (hS2 _ (by omega) h); omega
    have hlgT : ∀ q, lgS lb v' q → T' q ∧ ¬ L q := fun q h => h.elim (fun h => by rw [h]; exact ⟨(hrc.inT lb (by simp)).1, (hrc.inT lb (by simp)).2.1⟩) (fun h => hrc.vT q h)
    have b76 : w4.heap[w.heap.size + 1 + 1]? = some (.cells #[.int .i64 0, .int .i64 0, .int .i64 0, .int .i64 0, .int .i64 0, .int .i64 0, .int .i64 0] 37) :=
      (hfr.same _ (by rw [unhide HZ3]; omega) (fun h => by have := hL _ (hTn _ (by omega) h); omega)).trans (unhide HB76)
    have hend := wend_any (w := (w4.alloc (.cells #[.int .i64 s'.fin, .int .i64 (s'.reg 0), .int .i64 (s'.reg 1), .int .i64 (s'.reg 2), .int .i64 (s'.reg 3), .int .i64 s'.clock, .int .i64 s'.heard] 37)).drew) (lb := lb) (B := B') (v := v') (b := x'.log)
      (hrc.log.block (fun q hq => Below.heap_alloc _ _ _ (by
        rcases hq with rfl | hq
        · exact hrc.log.lt
        · exact (hrc.log.row.bump q hq).2)) (by show w4.heap.size ≤ (w4.alloc _).heap.size; simp))
      (by show B' ≤ (w4.alloc _).heap.size; have := hrc.low; simp; omega) s'.fin.toNat (by have := hfin.2; omega) (by have := hrc.room; omega)
    have hfn : (s'.fin.toNat : Int) = s'.fin := by have := hfin.1; omega
    rw [hfn] at hend
    have r1 : w4.cell? ⟨w2.heap.size, 1, none⟩ = some (.pointer (some ⟨lb, 0, none⟩)) := hrc.r1
    have hne4 : w2.heap.size ≠ w4.heap.size := by omega
    have hne4' : ¬ w4.heap.size = w2.heap.size := by omega
    have hz76 : w.heap.size + 1 + 1 < w4.heap.size := (Array.getElem?_eq_some_iff.1 b76).1
    have hne5 : w.heap.size + 1 + 1 ≠ w4.heap.size := by omega
    have nl : ¬ lgS lb v' (w.heap.size + 1 + 1) := fun h => hn2 (hri.inT _ (hlgT _ h).1).1
    have nb : ¬ lgS lb v' w4.heap.size := fun h => by have := (hri.bound _ (hri.inT _ (hlgT _ h).1).1).2; omega
    have HEND := hide hend
    have HRI := hide hri
    have HFR := hide hfr
    have HRC := hide hrc
    have HB := hide b76
    have NL := hide nl
    have NB := hide nb
    clear hend hri hfr hrc b76 nl nb H50
    have hv4 := fun j => cell_of_row (w4.alloc (.cells #[.int .i64 s'.fin, .int .i64 (s'.reg 0), .int .i64 (s'.reg 1), .int .i64 (s'.reg 2), .int .i64 (s'.reg 3), .int .i64 s'.clock, .int .i64 s'.heard] 37)) w4.heap.size j _ 37 (0, 0) (heap_alloc_new _ _)
    go_wp2_with fail
    go_region_with (go_at_call 38; refine (unhide HEND).mono ?_; rintro e w6 ⟨v6, rfl, l6, f6⟩; have q1 := (f6.same (w.heap.size + 1 + 1) (by show _ < (w4.alloc _).heap.size; simp; omega) (unhide NL)).trans ((Below.heap_alloc _ _ _ hz76).trans (unhide HB)); have q2 := (f6.same w4.heap.size (by show _ < (w4.alloc _).heap.size; simp) (unhide NB)).trans (heap_alloc_new w4 _); have u1 := fun j => cell_of_row w6 _ j _ 37 (0, 0) q1; have u2 := fun j => cell_of_row w6 _ j _ 37 (0, 0) q2; have uf := fun j => frozen_rowE q1 j; have F6 := hide f6; have Q1 := hide q1; clear l6 f6 q1 q2)
    all_goals
      go_wp2
      obtain ⟨g1, g2, g3⟩ := rec_end (unhide HRI) (unhide HRC) (unhide HFR) hz1 (unhide HF1) (unhide HF3) (by rw [unhide HZ3]; omega) (unhide F6)
      have g0 := fun j => cell_of_row _ _ j _ 37 (0, 0) (out7 (unhide Q1) (.int .i64 s'.fin) (.int .i64 (s'.reg 0)) (.int .i64 (s'.reg 1)) (.int .i64 (s'.reg 2)) (.int .i64 (s'.reg 3)) (.int .i64 s'.clock) (.int .i64 s'.heard))
      refine bodyPost_ret (v := .tuple #[.string (x'.log ++ frameS (bodyS 5 0 s'.fin.toNat)), vt, finV s', .int .i64 0]) (by simp [results, Tryz.results22, go_sem, Act.put, g0, finV]) rfl ?_
      rw [← unhide HR]
      refine ⟨out7_fr g1 (.inr (by omega)) _ _ _ _ _ _ _, 0, unhide HX, .inr ⟨rfl, vt, rfl, ?_⟩⟩
      refine ownsRow_of_block g2 (fun q hq => ?_)
      have hq' := g3 q hq
      rw [Below.heap_setCell _ _ _ _ hq', Below.heap_setCell _ _ _ _ hq', Below.heap_setCell _ _ _ _ hq', Below.heap_setCell _ _ _ _ hq', Below.heap_setCell _ _ _ _ hq', Below.heap_setCell _ _ _ _ hq', Below.heap_setCell _ _ _ _ hq']
  · have hxb : (x == 0) = false := by simpa using hx0
    go_wp2
    have g0 := fun j => cell_of_row _ _ j _ 37 (0, 0) (out7 (unhide B76) (.int .i64 0) (.int .i64 0) (.int .i64 0) (.int .i64 0) (.int .i64 0) (.int .i64 0) (.int .i64 0))
    refine bodyPost_ret (v := .tuple #[.string ⟨#[]⟩, .slice none 0 0, .agg #[.int .i64 0, .int .i64 0, .int .i64 0, .int .i64 0, .int .i64 0, .int .i64 0, .int .i64 0], .int .i64 x]) (by simp [results, Tryz.results22, go_sem, g0]) rfl ?_
    rw [← unhide HR]
    exact ⟨out7_fr (unhide HF1) (.inr (by omega)) _ _ _ _ _ _ _, x, unhide HX, .inl ⟨hx0, rfl⟩⟩
end Go.Proofs.YtfmbebofllgmoaaGreatDoor
namespace Go.Proofs.YtfmbebofllgmoaaGreatDoor
open Go.RowKit
attribute [local go_sem ↓] Go.wp_at_zero Go.wp_at_succ

/-- '[]byte(s)': new memory that holds the bytes. -/
theorem bytes_of (s : ByteArray) (w : World) : ∃ cap W, (convert 9 54 (.string s)).run Tryz.prog w = .ok (.slice (some ⟨w.heap.size, 0, none⟩) s.size cap) W ∧ W.heap.size = w.heap.size + 1 ∧ Fr (fun _ => False) w W (fun _ => False) ∧ BytesAt W (.slice (some ⟨w.heap.size, 0, none⟩) s.size cap) s := by
  have h := run_bytes_of_string (P := Tryz.prog) w 9 54 5 s Tryz.underlying9 Tryz.underlying54 Tryz.underlying5
  refine ⟨_, _, h, by show (World.alloc _ _).heap.size = _; simp, ((Fr.refl _ w).drew).alloc _, w.heap.size, 0, _, rfl, fun j u hj => ?_⟩
  have hl : j < s.size := by have := (List.getElem?_eq_some_iff.1 hj).1; rwa [u8s_length] at this
  have hb := heap_alloc_new w.drew (.cells (bytesRow s (grownCap w s.size 0 5)) 5 ((bytesRow s (grownCap w s.size 0 5)).size, (bytesRow s (grownCap w s.size 0 5)).size + 1))
  rw [Nat.zero_add]
  have hc := cell_of_row (w.drew.alloc (.cells (bytesRow s (grownCap w s.size 0 5)) 5 ((bytesRow s (grownCap w s.size 0 5)).size, (bytesRow s (grownCap w s.size 0 5)).size + 1))) w.heap.size j _ 5 _ hb
  rw [hc, bytesRow_at s _ j hl]
  rw [u8s_get s j hl] at hj
  rw [← hj]
  rfl

theorem Fr.nilF {w w' : World} (h : Fr (fun _ => False) w.drew w' (fun _ => False)) : Fr (fun _ => False) w w' (fun _ => False) := ⟨h.os, h.tape, h.output, h.size, h.same, h.old⟩
theorem bs_cons {s : ByteArray} (h : 0 < s.size) : ∃ t, bs s = byteAt s 0 :: t ∧ t.length + 1 = s.size := by
  have hl := bs_len s
  cases hb : bs s with
  | nil => rw [hb] at hl; simp at hl; omega
  | cons n t => exact ⟨t, by rw [byteAt_bs, hb]; rfl, by rw [hb] at hl; simpa using hl⟩
theorem rc_len {s : ByteArray} (h : (lenM s).2 ≠ 0) : ∃ w : Nat, rcL (bs s) = .inl w ∧ lenM s = (0, (w : Int)) := by
  by_cases h0 : 0 < s.size
  · obtain ⟨t, ht, hl⟩ := bs_cons h0
    rw [ht]
    unfold lenM at h ⊢
    simp only [rcL]
    by_cases h1 : 128 ≤ byteAt s 0 ∧ s.size = 1
    · rw [if_pos ⟨h1.1, List.eq_nil_of_length_eq_zero (by omega)⟩, if_pos (.inr h1)]
      exact ⟨2, rfl, rfl⟩
    · have h1' : ¬ (128 ≤ byteAt s 0 ∧ t = []) := fun hh => h1 ⟨hh.1, by rw [hh.2] at hl; simp at hl; omega⟩
      have h1'' : ¬ (s.size = 0 ∨ (128 ≤ byteAt s 0 ∧ s.size = 1)) := by
        rintro (hh | hh)
        · omega
        · exact h1 hh
      rw [if_neg h1'] 
      rw [if_neg h1''] at h ⊢
      by_cases h2 : byteAt s 0 < 1 ∨ 40 < byteAt s 0
      · rw [if_pos h2, if_pos h2]
        exact ⟨4, rfl, rfl⟩
      · rw [if_neg h2] at h
        exact absurd rfl h
  · cases str_zero h0
    exact ⟨2, rfl, rfl⟩
theorem len_ok {s : ByteArray} (h : (lenM s).2 = 0) : 0 < s.size ∧ 1 ≤ byteAt s 0 ∧ byteAt s 0 ≤ 40 ∧ lenM s = ((byteAt s 0 : Int), 0) := by
  unfold lenM at h ⊢
  split at h
  · simp at h
  · rename_i h1
    rw [if_neg h1]
    split at h
    · simp at h
    · rename_i h2
      rw [if_neg h2]
      exact ⟨by omega, by omega, by omega, rfl⟩
theorem rc_short {s : ByteArray} (h : (lenM s).2 = 0) (hs : s.size < byteAt s 0 + 5) : rcL (bs s) = .inl 2 := by
  obtain ⟨h0, h1, h40, _⟩ := len_ok h
  obtain ⟨t, ht, hl⟩ := bs_cons h0
  rw [ht]
  simp only [rcL]
  rw [if_neg (by omega), if_neg (by omega), if_pos (by omega)]
theorem rc_long {s : ByteArray} (h : (lenM s).2 = 0) (hs : byteAt s 0 + 5 ≤ s.size) : rcL (bs s) =
    if bs (sumS (s.extract 1 (1 + byteAt s 0))) ≠ bs (s.extract (1 + byteAt s 0) (1 + byteAt s 0 + 4)) then .inl 3 else match inpM (s.extract 1 (1 + byteAt s 0)) with
      | none => .inl 4
      | some r => .inr ((byteAt (s.extract 1 (1 + byteAt s 0)) 0, r), byteAt s 0 + 5) := by
  obtain ⟨h0, h1, h40, _⟩ := len_ok h
  obtain ⟨t, ht, hl⟩ := bs_cons h0
  have e1 : bs (s.extract 1 (1 + byteAt s 0)) = t.take (byteAt s 0) := by rw [bs_sub, ht, Nat.add_comm 1, List.take_succ_cons, List.drop_succ_cons, List.drop_zero]
  have e2 : bs (s.extract (1 + byteAt s 0) (1 + byteAt s 0 + 4)) = (t.drop (byteAt s 0)).take 4 := by
    rw [bs_sub, ht, show 1 + byteAt s 0 + 4 = (byteAt s 0 + 4) + 1 by omega, List.take_succ_cons, Nat.add_comm 1, List.drop_succ_cons, List.drop_take]
    congr 1; omega
  have hz : (s.extract 1 (1 + byteAt s 0)).size = byteAt s 0 := by rw [ByteArray.size_extract]; omega
  have e3 := ipL_bs (s.extract 1 (1 + byteAt s 0)) (by omega)
  rw [e1] at e3
  rw [← sm_bs, e1, e2]
  generalize byteAt s 0 = n at *
  rw [ht]
  simp only [rcL]
  rw [if_neg (by omega), if_neg (by omega), if_neg (by omega), e3]
  split
  · rfl
  · cases inpM (s.extract 1 (1 + n)) <;> rfl

def RcPost (s : ByteArray) (w : World) (e : Ending) (w' : World) : Prop :=
  Fr (fun _ => False) w w' (fun _ => False) ∧ match rcL (bs s) with
  | .inl y => e = .returned (.tuple #[.agg #[.int .i64 0, .int .i64 0, .int .i64 0, .slice none 0 0], .int .i64 0, .int .i64 y])
  | .inr (x, k) => ∃ a l c, e = .returned (.tuple #[.agg #[.int .i64 x.1, .int .i64 x.2.1, .int .i64 x.2.2.1, .slice a l c], .int .i64 k, .int .i64 0]) ∧ OwnI w' (w.heap.size + 1) (.slice a l c) (zs x.2.2.2)
theorem rcp_no {s : ByteArray} {w w' : World} {y : Nat} {z : Int} (h : rcL (bs s) = .inl y) (hz : z = y) (hf : Fr (fun _ => False) w w' (fun _ => False)) : RcPost s w (.returned (.tuple #[.agg #[.int .i64 0, .int .i64 0, .int .i64 0, .slice none 0 0], .int .i64 0, .int .i64 z])) w' := by
  unfold RcPost; rw [h]; subst hz; exact ⟨hf, rfl⟩
theorem rcp_yes {s : ByteArray} {w w' : World} {x : Inp} {k : Nat} {z0 z1 z2 z3 : Int} {a : Option Addr} {l c : Nat} (h : rcL (bs s) = .inr (x, k)) (h0 : z0 = x.1) (h1 : z1 = x.2.1) (h2 : z2 = x.2.2.1) (h3 : z3 = k) (hr : OwnI w' (w.heap.size + 1) (.slice a l c) (zs x.2.2.2)) (hf : Fr (fun _ => False) w w' (fun _ => False)) : RcPost s w (.returned (.tuple #[.agg #[.int .i64 z0, .int .i64 z1, .int .i64 z2, .slice a l c], .int .i64 z3, .int .i64 0])) w' := by
  unfold RcPost; rw [h]; subst h0 h1 h2 h3; exact ⟨hf, a, l, c, rfl, hr⟩

set_option maxHeartbeats 1000000 in
set_option maxRecDepth 20000 in
theorem record_no (s : ByteArray) (hs : s.size ≤ 1000000000) (w : World) (h : (lenM s).2 ≠ 0) : Calls Tryz.prog 59 #[.string s] w (RcPost s w) := by
  obtain ⟨y, hy, hl⟩ := rc_len h
  have hc := length_any s hs
  rw [hl] at hc h
  have hne : ((y : Int) != 0) = true := by simpa using h
  have HC := hide hc
  have HY := hide hy
  clear hc hy hl h
  go_enter Tryz.func59, Tryz.ntmps59
  go_wp2_with (go_at_call 99; refine ((unhide HC) _).mono ?_; rintro e w1 ⟨rfl, rfl⟩)
  refine bodyPost_ret (v := .tuple #[.agg #[.int .i64 0, .int .i64 0, .int .i64 0, .slice none 0 0], .int .i64 0, .int .i64 y]) (by simp [results, Tryz.results59, go_sem]) rfl (rcp_no (unhide HY) rfl ((Fr.refl _ w).alloc _))
set_option maxHeartbeats 1000000 in
set_option maxRecDepth 20000 in
theorem record_short (s : ByteArray) (hs : s.size ≤ 1000000000) (w : World) (h : (lenM s).2 = 0) (hn : s.size < byteAt s 0 + 5) : Calls Tryz.prog 59 #[.string s] w (RcPost s w) := by
  have hy := rc_short h hn
  obtain ⟨h0, h1, h40, hl⟩ := len_ok h
  have hc := length_any s hs
  rw [hl] at hc
  have HC := hide hc
  have HY := hide hy
  clear hc hy hl h
  generalize byteAt s 0 = n at *
  have hlt : (s.size : Int) < 1 + (n : Int) + 4 := by omega
  clear hn
  go_enter Tryz.func59, Tryz.ntmps59
  go_wp2_with (go_at_call 99; refine ((unhide HC) _).mono ?_; rintro e w1 ⟨rfl, rfl⟩)
  refine bodyPost_ret (v := .tuple #[.agg #[.int .i64 0, .int .i64 0, .int .i64 0, .slice none 0 0], .int .i64 0, .int .i64 2]) (by simp [results, Tryz.results59, go_sem]) rfl (rcp_no (unhide HY) rfl ((Fr.refl _ w).alloc _))
set_option maxHeartbeats 1000000 in
set_option maxRecDepth 20000 in
theorem record_long (s : ByteArray) (hs : s.size ≤ 1000000000) (w : World) (h : (lenM s).2 = 0) (hn : byteAt s 0 + 5 ≤ s.size) : Calls Tryz.prog 59 #[.string s] w (RcPost s w) := by
  have hy := rc_long h hn
  obtain ⟨h0, h1, h40, hl⟩ := len_ok h
  have hc := length_any s hs
  rw [hl] at hc
  have HC := hide hc
  have HY := hide hy
  clear hc hy hl h
  generalize byteAt s 0 = n at *
  have hlt : ¬ (s.size : Int) < 1 + (n : Int) + 4 := by omega
  have hi1 : (1 : Int) ≤ 1 + (n : Int) := by omega
  have hi2 : 1 + (n : Int) ≤ s.size := by omega
  have hi3 : 1 + (n : Int) ≤ 1 + (n : Int) + 4 := by omega
  have hi4 : 1 + (n : Int) + 4 ≤ s.size := by omega
  have hi5 : (0 : Int) ≤ 1 + (n : Int) := by omega
  have hwr : IntKind.i64.wrap (1 + (n : Int)) = 1 + (n : Int) := by rw [IntKind.wrap_i64]; omega
  go_enter Tryz.func59, Tryz.ntmps59
  go_upto_region 8 with (go_at_call 99; refine ((unhide HC) _).mono ?_; rintro e w1 ⟨rfl, rfl⟩)
  obtain ⟨cap, W1, hcv, hz1, f1, hb1⟩ := bytes_of (s.extract 1 (1 + n)) ((w.alloc (.cells #[.int .i64 0, .int .i64 0, .int .i64 0, .slice none 0 0] 49)).drew)
  have hbz : (s.extract 1 (1 + n)).size = n := by rw [ByteArray.size_extract]; omega
  have h100 := appendSum_any (w := W1) (B := W1.heap.size) (v := .slice none 0 0) (b := ByteArray.empty) (.inl (World.ownsRow_nil _ _ _ _)) hb1 (by omega) (by decide) (Nat.le_refl _)
  have hsz : ((w.alloc (.cells #[.int .i64 0, .int .i64 0, .int .i64 0, .slice none 0 0] 49)).drew).heap.size = w.heap.size + 1 := by show (World.alloc _ _).heap.size = _; simp
  rw [hbz, hsz] at hcv h100
  rw [ByteArray.empty_append] at h100
  have H4 := hide (b4_size (sumZ (s.extract 1 (1 + n)).data.toList))
  change Hid ((sumS (s.extract 1 (1 + n))).size = 4) at H4
  clear hz1 hsz
  have H100 := hide h100
  have H1 := hide ((f1).nilF)
  clear h100 f1 hb1
  go_cut [38] (fun u wc => u = .bool (!((sumS (s.extract 1 (1 + n))).toList == (s.extract (1 + n) (1 + n + 4)).toList)) ∧ Fr (fun _ => False) (w.alloc (.cells #[.int .i64 0, .int .i64 0, .int .i64 0, .slice none 0 0] 49)) wc (fun _ => False))
  case first =>
    refine wp_region_held_drew (S := fun _ => True) (by kernel_rfl) trivial (fun hHeld => ?_)
    refine take_yes (i := 0) (d := 29) (v := ?_) (fuel := 9) rfl rfl (by kernel_rfl) (by kernel_rfl) (by kernel_rfl) (fun _ _ _ h => h) (by rfl) ?_ (by assumption) ?_
    rotate_left
    · intro w hSw; (try dsimp only at hSw); go_simp; try with_reducible rfl
    simp only [List.setIfInBounds_toArray, List.set_cons_zero, List.set_cons_succ]
    refine take_yes (i := 4) (d := 33) (v := ?_) (fuel := 8) rfl rfl (by kernel_rfl) (by kernel_rfl) (by kernel_rfl) (fun _ _ _ h => h) (by rfl) ?_ (by assumption) ?_
    rotate_left
    · intro w hSw; (try dsimp only at hSw); go_simp; try with_reducible rfl
    simp only [List.setIfInBounds_toArray, List.set_cons_zero, List.set_cons_succ]
    refine take_yes (i := 5) (d := 34) (v := ?_) (fuel := 7) rfl rfl (by kernel_rfl) (by kernel_rfl) (by kernel_rfl) (fun _ _ _ h => h) (by rfl) ?_ (by assumption) ?_
    rotate_left
    · intro w hSw; (try dsimp only at hSw); go_simp; try with_reducible rfl
    simp only [List.setIfInBounds_toArray, List.set_cons_zero, List.set_cons_succ]
    refine take_yes (i := 6) (d := 35) (v := ?_) (fuel := 6) rfl rfl (by kernel_rfl) (by kernel_rfl) (by kernel_rfl) (fun _ _ _ h => h) (by rfl) ?_ (by assumption) ?_
    rotate_left
    · intro w hSw; (try dsimp only at hSw); go_simp; try with_reducible rfl
    simp only [List.setIfInBounds_toArray, List.set_cons_zero, List.set_cons_succ]
    refine take_yes (i := 7) (d := 36) (v := ?_) (fuel := 5) rfl rfl (by kernel_rfl) (by kernel_rfl) (by kernel_rfl) (fun _ _ _ h => h) (by rfl) ?_ (by assumption) ?_
    rotate_left
    · intro w hSw; (try dsimp only at hSw); go_simp; try with_reducible rfl
    simp only [List.setIfInBounds_toArray, List.set_cons_zero, List.set_cons_succ]
    refine take_yes (i := 8) (d := 37) (v := ?_) (fuel := 4) rfl rfl (by kernel_rfl) (by kernel_rfl) (by kernel_rfl) (fun _ _ _ h => h) (by rfl) ?_ (by assumption) ?_
    rotate_left
    · intro w hSw; (try dsimp only at hSw); go_simp; try with_reducible rfl
    simp only [List.setIfInBounds_toArray, List.set_cons_zero, List.set_cons_succ]
    refine wpAnyH_ready (rs := [1]) (by kernel_rfl) (by simp) ?_
    refine AllReadyH.cons rfl (fun K hK => ?_) AllReadyH.nil
    go_simp
    refine hK.out _ _ trivial (fun hHeld => ?_)
    clear hK K
    refine wpAnyH_ready (rs := [2]) (by kernel_rfl) (by simp) ?_
    refine AllReadyH.cons rfl (fun K hK => ?_) AllReadyH.nil
    go_simp
    go_at_call 100
    refine (unhide H100).mono ?_
    rintro e w2 ⟨v2, rfl, o2, f2⟩
    obtain ⟨g2, c2, rfl, _, _⟩ := o2.bytes (by rw [unhide H4]; omega)
    have hcv2 := convB (cap := c2) (o2.cells (by rw [unhide H4]; omega))
    have F2 := hide ((unhide H1).trans f2.nil)
    clear o2 f2
    refine hK.out _ _ trivial (fun hHeld => ?_)
    clear hK K
    refine wpAnyH_ready (rs := [3]) (by kernel_rfl) (by simp) ?_
    refine AllReadyH.cons rfl (fun K hK => ?_) AllReadyH.nil
    go_simp
    refine hK.out _ _ trivial (fun hHeld => ?_)
    clear hK K
    refine take_yes (i := 9) (d := 38) (v := ?_) (fuel := 0) rfl rfl (by kernel_rfl) (by kernel_rfl) (by kernel_rfl) (fun _ _ _ h => h) (by rfl) ?_ (by assumption) ?_
    rotate_left
    · intro w hSw; (try dsimp only at hSw); go_simp; try with_reducible rfl
    simp only [List.setIfInBounds_toArray, List.set_cons_zero, List.set_cons_succ]
    refine wpAnyH_done (by kernel_rfl) ?_ _
    go_wp2
    go_meet
    refine ⟨?_, unhide F2⟩
    have e1 : (1 + (n : Int)).toNat = 1 + n := by omega
    have e2 : (1 + (n : Int) + 4).toNat = 1 + n + 4 := by omega
    rw [e1, e2]
  case rest =>
    obtain ⟨rfl, hf⟩ := hcut
    clear hcv H100 H1 H4
    obtain ⟨⟨r0, r1, r2, r3⟩, rz⟩ := resB hf
    have HF := hide hf
    have hwz : w.heap.size < wc.heap.size := by have := hf.size; simp at this; omega
    clear hf
    by_cases hsum : (sumS (s.extract 1 (1 + n))).toList = (s.extract (1 + n) (1 + n + 4)).toList
    · have hy := unhide HY
      rw [if_neg (fun h => h (toList_bs.1 hsum))] at hy
      have hsb : ((sumS (s.extract 1 (1 + n))).toList == (s.extract (1 + n) (1 + n + 4)).toList) = true := by simpa using hsum
      rw [hsb]
      have h101 := input_any (s.extract 1 (1 + n)) (by omega) (by omega) wc
      cases hin : inpM (s.extract 1 (1 + n)) with
      | none =>
        rw [hin] at hy
        have h2 : Calls Tryz.prog 101 #[.string (s.extract 1 (1 + n))] wc fun e w' => ∃ z0 z1 z2 a l c, e = .returned (.tuple #[.agg #[.int .i64 z0, .int .i64 z1, .int .i64 z2, .slice a l c], .bool false]) ∧ Fr (fun _ => False) wc w' (fun _ => False) := h101.mono fun e w' h => by
          unfold InPost at h; rw [hin] at h; obtain ⟨h1, z0, z1, z2, a, l, c, h2⟩ := h; exact ⟨z0, z1, z2, a, l, c, h2, h1⟩
        have H2 := hide h2
        have HY2 := hide hy
        clear h101 h2 hy hsum hsb hin
        go_wp2_with (go_at_call 101; refine (unhide H2).mono ?_; rintro e w3 ⟨z0, z1, z2, a3, l3, c3, rfl, f3⟩; have F3 := hide ((unhide HF).trans f3); obtain ⟨⟨t0, t1, t2, t3⟩, tz⟩ := resB (unhide F3); clear f3)
        have hz3 := ((unhide F3).same w.heap.size (by simp) (fun h => h)).trans (heap_alloc_new w _)
        have g0 := fun j => cell_of_row _ _ j _ 49 (0, 0) (out4 (out4 hz3 (.int .i64 z0) (.int .i64 z1) (.int .i64 z2) (.slice a3 l3 c3)) (.int .i64 0) (.int .i64 0) (.int .i64 0) (.slice none 0 0))
        exact bodyPost_ret (v := .tuple #[.agg #[.int .i64 0, .int .i64 0, .int .i64 0, .slice none 0 0], .int .i64 0, .int .i64 4]) (by simp [results, Tryz.results59, go_sem, g0]) rfl (rcp_no (unhide HY2) rfl (out4_fr (out4_fr (unhide F3).unalloc (.inr (Nat.le_refl _)) _ _ _ _) (.inr (Nat.le_refl _)) _ _ _ _))
      | some r =>
        obtain ⟨o, m, fs⟩ := r
        rw [hin] at hy
        have h2 : Calls Tryz.prog 101 #[.string (s.extract 1 (1 + n))] wc fun e w' => ∃ a l c, e = .returned (.tuple #[.agg #[.int .i64 (byteAt (s.extract 1 (1 + n)) 0), .int .i64 o, .int .i64 m, .slice a l c], .bool true]) ∧ OwnI w' wc.heap.size (.slice a l c) (zs fs) ∧ Fr (fun _ => False) wc w' (fun _ => False) := h101.mono fun e w' h => by
          unfold InPost at h; rw [hin] at h; obtain ⟨h1, a, l, c, h2, h3⟩ := h; exact ⟨a, l, c, h2, h3, h1⟩
        have H2 := hide h2
        have HY2 := hide hy
        clear h101 h2 hy hsum hsb hin
        generalize byteAt (s.extract 1 (1 + n)) 0 = kd at *
        go_wp2_with (go_at_call 101; refine (unhide H2).mono ?_; rintro e w3 ⟨a3, l3, c3, rfl, o3, f3⟩; have O3' := hide o3; have F3 := hide ((unhide HF).trans f3); obtain ⟨⟨t0, t1, t2, t3⟩, tz⟩ := resB (unhide F3); clear f3 o3)
        have hz3 := ((unhide F3).same w.heap.size (by simp) (fun h => h)).trans (heap_alloc_new w _)
        have g0 := fun j => cell_of_row _ _ j _ 49 (0, 0) (out4 (out4 hz3 (.int .i64 kd) (.int .i64 o) (.int .i64 m) (.slice a3 l3 c3)) (.int .i64 kd) (.int .i64 o) (.int .i64 m) (.slice a3 l3 c3))
        refine bodyPost_ret (v := .tuple #[.agg #[.int .i64 kd, .int .i64 o, .int .i64 m, .slice a3 l3 c3], .int .i64 (1 + (n : Int) + 4), .int .i64 0]) (by simp [results, Tryz.results59, go_sem, g0]) rfl (rcp_yes (unhide HY2) rfl rfl rfl (by omega) ?_ (out4_fr (out4_fr (unhide F3).unalloc (.inr (Nat.le_refl _)) _ _ _ _) (.inr (Nat.le_refl _)) _ _ _ _))
        have h3 := unhide O3'
        refine ownsRow_of_block (ownsRow_low h3 (by omega)) (fun q hq => ?_)
        have hq' := (World.ownsRow.lt h3 q hq).1
        have hne' : q ≠ w.heap.size := by omega
        rw [out4_other hne', out4_other hne']
    · have hy := unhide HY
      rw [if_pos (fun h => hsum (toList_bs.2 h))] at hy
      have hsb : ((sumS (s.extract 1 (1 + n))).toList == (s.extract (1 + n) (1 + n + 4)).toList) = false := by simpa using hsum
      rw [hsb]
      have HY2 := hide hy
      clear hy hsum hsb
      go_wp2
      refine bodyPost_ret (v := .tuple #[.agg #[.int .i64 0, .int .i64 0, .int .i64 0, .slice none 0 0], .int .i64 0, .int .i64 3]) (by simp [results, Tryz.results59, go_sem, r0, r1, r2, r3]) rfl (rcp_no (unhide HY2) rfl (out4_fr (unhide HF).unalloc (.inr (Nat.le_refl _)) _ _ _ _))
/-- The reader's record. -/
theorem record_at (s : ByteArray) (hs : s.size ≤ 1000000000) (w : World) : Calls Tryz.prog 59 #[.string s] w (RcPost s w) := by
  by_cases h : (lenM s).2 = 0
  · by_cases hn : s.size < byteAt s 0 + 5
    · exact record_short s hs w h hn
    · exact record_long s hs w h (by omega)
  · exact record_no s hs w h
end Go.Proofs.YtfmbebofllgmoaaGreatDoor
