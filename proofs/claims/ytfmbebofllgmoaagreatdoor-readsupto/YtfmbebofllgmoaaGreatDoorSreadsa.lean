/-
  PROVED HERE: rerunref.register, rerunref.right and check.fits answer what P3 says of one operation, at all numbers. rerunlaw.wipe and rerunlaw.ops: a handler is written over, or copied with four operations behind it, and old memory stays. rerunlaw.handlers copies a list of handlers, with four behind it, and old memory stays. rerunlaw.sameOps and sameHandlers answer true of a copy and its original. rerunlaw.program copies a program, and old memory stays. how the loop's run struct lies in memory, and what stores, new blocks and draws leave of it. what the loop's hear does over a source whose own Hear keeps its word (HearSpec): the end is set, or one input more is heard. the loop's ready keeps the files of a batch that are watched; pick hears nothing where there is no choice. slices.Delete of one element of a list of integers of the call's own. the reference's varint. the reference's Sum and Frame. the reference's Body. slices of bytes that are a writer's own; the log's appendVarint, sum and appendSum. the small functions of the log's reader: within, behind, length, varint. the reader's varint. the reader's row of varints. the reader's look at a batch's files. the reader's input: what a body tells. the bytes of varints and of inputs: written and read. bodies and sums: no body begins another one; one byte turned makes another sum. a slice of one's own grows: what else lies in memory stays as it is. the document's reader: a number, the numbers of a text. the document's reader: the numbers of a text. wakeReady wakes the ready files as the model (wkM) says, over a source that keeps its word. the model of a turn and of a run, and what the numbers of a run keep. Run runs a program as the model (runM) says, over a source that keeps its word. logs, read record by record: whole ones, their first bytes, with one byte turned. the log's body of an input, by kind. the log's writer: Heard writes a record, End the last one. the log's writer begins with its head, and ends with the record of the end. what a world's source answers, by kind. the recorder hears what its source answers and writes it down. the recorder over a world is a source that keeps its word. a source of inputs of a log (the model of a replay), and what a run has heard, kept beside it. what the document's reader makes of a body, as against the reader's own. the reader's input: what is none. the reader's input: a pick and a lot whose Of is none. the reader's input: a kind that is none. the reader's input: a pick and a lot whose Of is one. the reader's input: a batch. the reader's beginning: do the bytes begin as a log must?
-/
import Derived.Test.YtfmbebofllgmoaaGreatDoorProg
import Derived.WalkKit
import Derived.WalkSpells
import Derived.WalkLawsBesides
import Derived.Deep.QuietTactic
import Derived.BigQuiet
import Derived.Deep.RegionHeld3
import Derived.Deep.AppendLies
import Derived.Laws.EntriesVeiled
import Derived.Deep.DrawnRows
import Derived.BigRegion
import Derived.Deep.LoopGhost
import Derived.Deep.RegionLaw
import Derived.Lib.SliceRun
import Derived.Laws.BytesString
import Derived.ArgAppend
import Derived.Laws.BitsAllLaws
import Derived.Deep.MidRow
import Derived.Shelf.SlSortCmp.SmallK
import Derived.Shelf.SlicesG.Cmp
import Derived.Shelf.Small.Bits
import Derived.Laws.StructEq
import Derived.Deep.DeepCutAuto
import Derived.Conc.LoneCalls
import Derived.Calls
import Derived.Tactics
import Derived.KernelRfl
import Derived.Laws.Rows
import Derived.Lib.SlBytesConst
import Derived.RangeFuncOwn
namespace Go.Proofs.YtfmbebofllgmoaaGreatDoor
open Go.RowKit

theorem ret_bool {a b : Bool} (h : a = b) : Ending.returned (.bool a) = .returned (.bool b) := by rw [h]

end Go.Proofs.YtfmbebofllgmoaaGreatDoor
namespace Go.Proofs.YtfmbebofllgmoaaGreatDoor
open Go.RowKit

theorem hide {p : Prop} (h : p) : Hid p := h
theorem unhide {p : Prop} (h : Hid p) : p := h
/-- An operation, as three numbers. -/
abbrev O3 := Int × Int × Int
/-- Three cells hold an operation. -/
def OpAt (w : World) (b o : Nat) (x : O3) : Prop :=
  w.cell? ⟨b, o, none⟩ = some (.int .i64 x.1) ∧ w.cell? ⟨b, o + 1, none⟩ = some (.int .i64 x.2.1) ∧ w.cell? ⟨b, o + 2, none⟩ = some (.int .i64 x.2.2)
/-- A slice value whose n elements are the operations f 0, f 1, .. -/
def OpsIn (w : World) (v : Value) (n : Nat) (f : Nat → O3) : Prop :=
  ∃ a c, v = .slice a n c ∧ n * 24 ≤ 140737488351232 ∧ (n = 0 ∨ ∃ b off, a = some ⟨b, off, none⟩ ∧ ∀ i, i < n → OpAt w b (off + i * 3) (f i))

end Go.Proofs.YtfmbebofllgmoaaGreatDoor
namespace Go.Proofs.YtfmbebofllgmoaaGreatDoor
open Go.RowKit

/-- A slice value whose n elements are handlers: the i-th has ln i operations f i 0, f i 1, .. -/
def HandsIn (w : World) (v : Value) (n : Nat) (ln : Nat → Nat) (f : Nat → Nat → O3) : Prop :=
  ∃ a c, v = .slice a n c ∧ n * 24 ≤ 140737488351232 ∧ (n = 0 ∨ ∃ b off, a = some ⟨b, off, none⟩ ∧ ∀ i, i < n → ∃ vi, w.cell? ⟨b, off + i, none⟩ = some vi ∧ OpsIn w vi (ln i) (f i))

end Go.Proofs.YtfmbebofllgmoaaGreatDoor
namespace Go.Proofs.YtfmbebofllgmoaaGreatDoor
open Go.RowKit

/-- Nothing but draws lies between two worlds. -/
def Dr (w w' : World) : Prop := ∃ m, w' = w.drewN m
theorem Dr.refl (w : World) : Dr w w := ⟨0, rfl⟩
theorem Dr.cell {w w' : World} (h : Dr w w') (a : Addr) : w'.cell? a = w.cell? a := by obtain ⟨m, rfl⟩ := h; simp
theorem Dr.more {w w' : World} (h : Dr w w') (k : Nat) : Dr w (w'.drewN k) := by
  obtain ⟨m, rfl⟩ := h
  exact ⟨m + k, by rw [World.drewN_drewN]⟩

end Go.Proofs.YtfmbebofllgmoaaGreatDoor
namespace Go.Proofs.YtfmbebofllgmoaaGreatDoor
open Go.RowKit

theorem bcel {B : Nat} {w w' : World} (h : Below B w w') (b o : Nat) (hb : b < B) : w'.cell? ⟨b, o, none⟩ = w.cell? ⟨b, o, none⟩ := h.cell (p := ⟨b, o, none⟩) hb
end Go.Proofs.YtfmbebofllgmoaaGreatDoor
namespace Go.Proofs.YtfmbebofllgmoaaGreatDoor
open Go.RowKit

/-- A timer: is it armed, for when, the how-manieth arming, its number. -/
abbrev TM := Bool × Int × Int × Int
/-- The state of a run. -/
structure PS where
  fuel : Int
  next : Int
  reg : Nat → Int
  clock : Int
  tim : Nat → TM
  armings : Int
  wat : Nat → Bool
  trace : List O3
  heard : Int
  fin : Int

/-- Of what was there nothing has turned but the blocks of S; S' has no other old block. -/
structure Fr (S : Nat → Prop) (w w' : World) (S' : Nat → Prop) : Prop where
  os : w'.os = w.os
  tape : w'.tape = w.tape
  output : w'.output = w.output
  size : w.heap.size ≤ w'.heap.size
  same : ∀ k, k < w.heap.size → ¬ S k → w'.heap[k]? = w.heap[k]?
  old : ∀ k, k < w.heap.size → S' k → S k

theorem Fr.refl (S : Nat → Prop) (w : World) : Fr S w w S := ⟨rfl, rfl, rfl, Nat.le_refl _, fun _ _ _ => rfl, fun _ _ h => h⟩
theorem Fr.trans {S S' S'' : Nat → Prop} {w w' w'' : World} (h : Fr S w w' S') (h' : Fr S' w' w'' S'') : Fr S w w'' S'' :=
  ⟨h'.os.trans h.os, h'.tape.trans h.tape, h'.output.trans h.output, Nat.le_trans h.size h'.size,
    fun k hk hn => (h'.same k (Nat.lt_of_lt_of_le hk h.size) (fun hs => hn (h.old k hk hs))).trans (h.same k hk hn), fun k hk hs => h.old k hk (h'.old k (Nat.lt_of_lt_of_le hk h.size) hs)⟩
theorem Fr.alloc {S S' : Nat → Prop} {w w' : World} (h : Fr S w w' S') (o : Obj) : Fr S w (w'.alloc o) S' :=
  ⟨h.os, h.tape, h.output, Nat.le_trans h.size (by simp), fun k hk hn => (Below.heap_alloc _ _ _ (Nat.lt_of_lt_of_le hk h.size)).trans (h.same k hk hn), h.old⟩
theorem Fr.drew {S S' : Nat → Prop} {w w' : World} (h : Fr S w w' S') : Fr S w w'.drew S' := ⟨h.os, h.tape, h.output, h.size, h.same, h.old⟩
theorem Fr.drewN {S S' : Nat → Prop} {w w' : World} (h : Fr S w w' S') (n : Nat) : Fr S w (w'.drewN n) S' := ⟨h.os, h.tape, h.output, h.size, h.same, h.old⟩
/-- A store into a block of S, or into one that is new since w. -/
theorem Fr.setCell {S S' : Nat → Prop} {w w' : World} (h : Fr S w w' S') (a : Addr) (v : Value) (ha : S a.block ∨ w.heap.size ≤ a.block) : Fr S w (w'.setCell a v) S' :=
  ⟨h.os, h.tape, h.output, by simpa [World.setCell] using h.size, fun k hk hn => by
    rw [Below.heap_setCell _ _ _ _ (by intro e; subst e; rcases ha with ha | ha <;> first | exact hn ha | omega)]; exact h.same k hk hn, h.old⟩
theorem Fr.cell {S S' : Nat → Prop} {w w' : World} (h : Fr S w w' S') (b o : Nat) (hb : b < w.heap.size) (hn : ¬ S b) : w'.cell? ⟨b, o, none⟩ = w.cell? ⟨b, o, none⟩ :=
  World.cell?_of_block (w := w) (a := ⟨b, o, none⟩) (h.same b hb hn)
theorem Fr.frozen {S S' : Nat → Prop} {w w' : World} (h : Fr S w w' S') (b o : Nat) (hb : b < w.heap.size) (hn : ¬ S b) : w'.frozen? ⟨b, o, none⟩ = w.frozen? ⟨b, o, none⟩ :=
  World.frozen?_of_block (w := w) (a := ⟨b, o, none⟩) (h.same b hb hn)
theorem Fr.below {S S' : Nat → Prop} {w w' : World} {B : Nat} (h : Fr S w w' S') (hS : ∀ k, S k → B ≤ k) (hB : B ≤ w.heap.size) : Below B w w' :=
  ⟨h.os, h.tape, h.output, h.size, fun k hk => h.same k (by omega) (fun hs => by have := hS k hs; omega)⟩

/-- The cells of a list of events. -/
def flatE : List O3 → List Value
  | [] => []
  | x :: r => .int .i64 x.1 :: .int .i64 x.2.1 :: .int .i64 x.2.2 :: flatE r
theorem ownsRow_of_block {w w' : World} {B e size n : Nat} {v : Value} {xs : List Value} (h : w.ownsRow B e size v n xs) (hb : ∀ q, v.ownBlock = some q → w'.heap[q]? = w.heap[q]?) : w'.ownsRow B e size v n xs := by
  refine ⟨h.1, ?_⟩
  rcases h.2 with hn | ⟨g, cap, cur, rfl, hB, hg, r⟩
  · exact .inl hn
  · exact .inr ⟨g, cap, cur, rfl, hB, (hb g rfl).trans hg, r⟩



end Go.Proofs.YtfmbebofllgmoaaGreatDoor
namespace Go.Proofs.YtfmbebofllgmoaaGreatDoor
open Go.RowKit

/-- What a source answers: kind, of, n, files; the end (0: none). -/
structure Rep where
  kind : Int
  of : Int
  n : Int
  files : List Int
  e : Int

/-- A slice of integers in memory, in a block of P. -/
def IntsIn (w : World) (v : Value) (l : List Int) (P : Nat → Prop) : Prop :=
  ∃ a c, v = .slice a l.length c ∧ (l = [] ∨ ∃ q off, a = some ⟨q, off, none⟩ ∧ P q ∧ ∀ i, i < l.length → w.cell? ⟨q, off + i, none⟩ = some (.int .i64 (l.getD i 0)))

section
variable {σ : Type} {SA : (Nat → Prop) → World → σ → Prop} {ask : σ → Int → Int → Rep × σ} {may : Int → Int → Prop} {B : Nat} {S T : Nat → Prop} {w : World} {b : Nat} {pv : Nat → Value} {vt : Value} {s : PS} {x : σ}

theorem intsIn_kept {w w' : World} {v : Value} {l : List Int} {P P' : Nat → Prop} (h : IntsIn w v l P) (hk : ∀ q, P q → w'.heap[q]? = w.heap[q]?) (hp : ∀ q, P q → P' q) : IntsIn w' v l P' := by
  obtain ⟨a, c, hv, hl⟩ := h
  refine ⟨a, c, hv, ?_⟩
  rcases hl with hl | ⟨q, off, ha, hq, hc⟩
  · exact .inl hl
  · exact .inr ⟨q, off, ha, hp q hq, fun i hi => (World.cell?_of_block (w := w) (a := ⟨q, off + i, none⟩) (hk q hq)).trans (hc i hi)⟩

end
end Go.Proofs.YtfmbebofllgmoaaGreatDoor
namespace Go.Proofs.YtfmbebofllgmoaaGreatDoor
open Go.RowKit
attribute [local go_sem ↓] Go.wp_at_zero Go.wp_at_succ

theorem info3 : ∃ i, Tryz.prog.info? 3 = some i ∧ i.zero = some (.int .i64 0) ∧ i.size = 1 ∧ i.bytes = 8 := by
  have h : (Tryz.prog.info? 3).map (fun i => (i.zero, i.size, i.bytes)) = some (some (.int .i64 0), 1, 8) := by kernel_rfl
  cases hi : Tryz.prog.info? 3 with
  | none => rw [hi] at h; cases h
  | some i =>
    rw [hi] at h
    simp only [Option.map_some, Option.some.injEq, Prod.mk.injEq] at h
    exact ⟨i, rfl, h.1, h.2.1, h.2.2⟩

/-- A list of integers of the call's own, all of its blocks from B on. -/
def OwnI (w : World) (B : Nat) (v : Value) (l : List Int) : Prop := w.ownsRow B 3 1 v l.length (l.map fun z => Value.int .i64 z)

theorem wpList_int {ops : Array Oper} {rest : List Oper} {o : Oper} {a : Act} {Q : Exit → Act → World → Prop} {w : World} {B : Nat} {v : Value} {l : List Int} (hgd : o.guard = none) (sv xv : Operand)
    (ho : o.op = .call { callee := .builtin .append, args := #[sv, xv], argTypes := #[26, 26] }) {z : Int}
    (hs : a.eval sv = v) (hx : a.eval xv = .slice (some ⟨w.heap.size, 0, none⟩) 1 1) (hrow : OwnI w B v l) (hn : l.length ≤ 1000) (hB : B ≤ w.heap.size)
    (h : ∀ v' w', OwnI w' B v' (l ++ [z]) → (w.alloc (.cells #[.int .i64 z] 3)).grownBy w' v.ownBlock → wpList Tryz.prog ops Q rest (a.put o.dst v') w') :
    wpList Tryz.prog ops Q (o :: rest) a (w.alloc (.cells #[.int .i64 z] 3)) := by
  obtain ⟨i, hi, hz, hs1, hby⟩ := info3
  have hb' : B ≤ (w.alloc (.cells #[.int .i64 z] 3)).heap.size := by simp; omega
  have hm : l.length + 1 ≤ maxLen := by simp only [maxLen]; omega
  have hby' : (l.length + 1) * 8 ≤ 140737488355328 := by omega
  have hone : ∀ u ∈ [Value.int .i64 z], u.oneCell' = true := by simp [Value.oneCell']
  have hsz : (w.alloc (.cells #[.int .i64 z] 3)).heap.size = w.heap.size + 1 := by simp
  refine wpList_append_lies _ hgd sv xv 26 ho B 3 i _ 1 8 Tryz.underlying26 hi hz hs1 hby rfl (by omega) v l.length _ hs (hrow.alloc _) ⟨w.heap.size, 0, none⟩ 1 1 [.int .i64 z] hx rfl
    (World.news_of_block (heap_alloc_new w _)) hone (by omega) hm hby' hb' (w.heap.size + 1) hsz ?_
  intro g cap w' h1 h2 _ _
  refine h _ w' ?_ h2
  unfold OwnI
  rw [List.length_append, List.map_append]
  exact h1

section
variable {σ : Type} {SA : (Nat → Prop) → World → σ → Prop} {ask : σ → Int → Int → Rep × σ} {may : Int → Int → Prop} {B : Nat} {S T : Nat → Prop} {w : World} {b : Nat} {pv : Nat → Value} {vt : Value} {s : PS} {x : σ}

theorem Fr.grown {S S' : Nat → Prop} {w w' w'' : World} {row : Option Nat} (h : Fr S w w' S') (hg : w'.grownBy w'' row) (hr : ∀ k, row = some k → w.heap.size ≤ k) : Fr S w w'' S' :=
  ⟨hg.os.trans h.os, hg.tape.trans h.tape, hg.output.trans h.output, Nat.le_trans h.size hg.size, fun k hk hn => (hg.block k (Nat.lt_of_lt_of_le hk h.size) (fun e => by have := hr k e.symm; omega)).trans (h.same k hk hn), h.old⟩
end
end Go.Proofs.YtfmbebofllgmoaaGreatDoor
namespace Go.Proofs.YtfmbebofllgmoaaGreatDoor
open Go.RowKit

theorem ownI_parts {w : World} {B : Nat} {v : Value} {l : List Int} (h : OwnI w B v l) (hl : 0 < l.length) : ∃ g cap cur, v = .slice (some ⟨g, 0, none⟩) l.length cap ∧ B ≤ g ∧ w.heap[g]? = some (.cells cur 3 (0, 0)) ∧ l.length ≤ cap ∧ cap ≤ maxLen ∧ cur.size = cap ∧
    (∀ j, j < l.length → w.cell? ⟨g, j, none⟩ = some (.int .i64 (l.getD j 0))) := by
  rcases h.2 with ⟨_, h0⟩ | ⟨g, cap, cur, hv, hB, hg, h1, h2, h3, h4⟩
  · omega
  refine ⟨g, cap, cur, hv, hB, hg, h1, h2, by omega, fun j hj => ?_⟩
  rw [cell_of_row w g j cur 3 (0, 0) hg]
  have h5 := congrArg (fun q : List Value => q[j]?) h4
  simp only [List.getElem?_take, Nat.mul_one, hj, if_true, Array.getElem?_toList] at h5
  rw [h5]
  simp [List.getD, hj]

end Go.Proofs.YtfmbebofllgmoaaGreatDoor
namespace Go.Proofs.YtfmbebofllgmoaaGreatDoor
open Go.RowKit
attribute [local go_sem ↓] Go.wp_at_zero Go.wp_at_succ

theorem conv1 (w : World) (g : Nat) (z : Int) (h : w.cell? ⟨g, 0, none⟩ = some (.int .u8 z)) : (convert 54 9 (.slice (some ⟨g, 0, none⟩) 1 1)).run Tryz.prog w = .ok (.string (ByteArray.empty.push (UInt8.ofNat z.toNat))) w := by
  rw [run_convert_bytes_string w 54 9 5 _ _ _ Tryz.underlying54 Tryz.underlying5 Tryz.underlying9]
  refine run_bytesToString w ⟨g, 0, none⟩ 1 1 [z] ?_
  go_simp
set_option maxRecDepth 20000 in
theorem varint_small (n : Nat) (w : World) (h : n < 128) : Calls Tryz.prog 132 #[.int .i64 n] w fun e w' => e = .returned (.string (ByteArray.empty.push (UInt8.ofNat n))) ∧ Fr (fun _ => False) w w' (fun _ => False) := by
  have hlt : (n : Int) < 128 := by omega
  have hwr : IntKind.u8.wrap (n : Int) = n := by simp [IntKind.wrap, IntKind.bits, IntKind.signed]; omega
  have hcv := conv1 (w.alloc (.cells #[.int .u8 n] 5)) w.heap.size n (cell_of_row _ _ 0 _ 5 (0, 0) (heap_alloc_new w _))
  rw [Int.toNat_natCast] at hcv
  go_enter Tryz.func132, Tryz.ntmps132
  go_wp2
  go_ret
  exact ⟨rfl, (Fr.refl _ w).alloc _⟩

def varG : Nat → Nat → ByteArray
  | 0, n => ByteArray.empty.push (UInt8.ofNat n)
  | f + 1, n => if n < 128 then ByteArray.empty.push (UInt8.ofNat n) else ByteArray.empty.push (UInt8.ofNat (n % 128 + 128)) ++ varG f (n / 128)
/-- The bytes of a varint. -/
def varS (n : Nat) : ByteArray := varG n n
theorem varG_more : ∀ (f g n : Nat), n ≤ f → n ≤ g → varG f n = varG g n
  | 0, 0, _, _, _ => rfl
  | 0, g + 1, n, h, _ => by
    have : n = 0 := by omega
    subst this; simp [varG]
  | f + 1, 0, n, _, h => by
    have : n = 0 := by omega
    subst this; simp [varG]
  | f + 1, g + 1, n, h, h' => by
    simp only [varG]
    by_cases hn : n < 128
    · rw [if_pos hn, if_pos hn]
    · rw [if_neg hn, if_neg hn, varG_more f g (n / 128) (by omega) (by omega)]
theorem varS_eq (n : Nat) : varS n = if n < 128 then ByteArray.empty.push (UInt8.ofNat n) else ByteArray.empty.push (UInt8.ofNat (n % 128 + 128)) ++ varS (n / 128) := by
  unfold varS
  cases n with
  | zero => simp [varG]
  | succ m =>
    conv => lhs; unfold varG
    by_cases hn : m + 1 < 128
    · rw [if_pos hn, if_pos hn]
    · rw [if_neg hn, if_neg hn, varG_more m ((m + 1) / 128) ((m + 1) / 128) (by omega) (Nat.le_refl _)]

theorem varS_size (n : Nat) : 1 ≤ (varS n).size ∧ (varS n).size ≤ n + 1 := by
  induction n using Nat.strongRecOn with
  | _ n ih =>
    rw [varS_eq]
    by_cases h : n < 128
    · rw [if_pos h]; simp
    · rw [if_neg h]
      have := ih (n / 128) (by omega)
      simp [ByteArray.size_append]
      omega

set_option maxHeartbeats 1000000 in
set_option maxRecDepth 20000 in
theorem varint_step (n : Nat) (hn : 128 ≤ n) (hm : n < 4611686018427387904) (ih : ∀ w, Calls Tryz.prog 132 #[.int .i64 (n / 128 : Nat)] w fun e w' => e = .returned (.string (varS (n / 128))) ∧ Fr (fun _ => False) w w' (fun _ => False)) (w : World) :
    Calls Tryz.prog 132 #[.int .i64 n] w fun e w' => e = .returned (.string (varS n)) ∧ Fr (fun _ => False) w w' (fun _ => False) := by
  have hlt : ¬ (n : Int) < 128 := by omega
  have hv : varS n = ByteArray.empty.push (UInt8.ofNat (n % 128 + 128)) ++ varS (n / 128) := by rw [varS_eq, if_neg (by omega)]
  have hmod : ((n : Int)).tmod 128 = ((n % 128 : Nat) : Int) := by rw [Int.tmod_eq_emod_of_nonneg (by omega)]; omega
  have hdiv : ((n : Int)).tdiv 128 = ((n / 128 : Nat) : Int) := by rw [Int.tdiv_eq_ediv_of_nonneg (by omega)]; omega
  have hql : n / 128 < 4611686018427387904 := by omega
  have hRs := (varS_size (n / 128)).2
  rw [hv]
  generalize varS (n / 128) = R at *
  generalize n / 128 = q at *
  have hr : n % 128 < 128 := by omega
  generalize n % 128 = r at *
  have hw1 : IntKind.i64.wrap ((r : Int) + 128) = (r : Int) + 128 := by rw [IntKind.wrap_i64]; omega
  have hw3 : IntKind.i64.wrap (q : Int) = q := by rw [IntKind.wrap_i64]; omega
  have hw2 : IntKind.u8.wrap ((r : Int) + 128) = (r : Int) + 128 := by simp [IntKind.wrap, IntKind.bits, IntKind.signed]; omega
  have hcv := fun W g => conv1 W g ((r : Int) + 128)
  have hz : ((r : Int) + 128).toNat = r + 128 := by omega
  rw [hz] at hcv
  generalize hP1 : ByteArray.empty.push (UInt8.ofNat (r + 128)) = P1 at *
  have hsz : ¬ 9223372036854775807 < P1.size + R.size := by
    have : P1.size = 1 := by rw [← hP1]; simp
    omega
  clear hv hz hm hql hP1 hRs
  go_enter Tryz.func132, Tryz.ntmps132
  go_wp2
  go_region_with (go_at_call 132; refine (ih _).mono ?_; rintro e w' ⟨rfl, fr⟩; have ck := fun j hj => fr.cell j 0 hj (fun h => h); have FR := hide fr; clear fr)
  all_goals
    go_wp2
    go_ret
    refine ⟨rfl, ?_⟩
    first
      | exact (((Fr.refl _ w).alloc _).drew.trans (unhide FR))
      | exact ((Fr.refl _ w).drew.trans (unhide FR)).alloc _
      | exact (((Fr.refl _ w).drew.alloc _).trans (unhide FR))

/-- varint of a number that is not below 0. -/
theorem varint_any (n : Nat) (hm : n < 4611686018427387904) : ∀ w : World, Calls Tryz.prog 132 #[.int .i64 n] w fun e w' => e = .returned (.string (varS n)) ∧ Fr (fun _ => False) w w' (fun _ => False) := by
  induction n using Nat.strongRecOn with
  | _ n ih =>
    intro w
    by_cases h : n < 128
    · rw [varS_eq, if_pos h]; exact varint_small n w h
    · exact varint_step n (by omega) hm (fun w => ih (n / 128) (by omega) (by omega) w) w
end Go.Proofs.YtfmbebofllgmoaaGreatDoor
namespace Go.Proofs.YtfmbebofllgmoaaGreatDoor
open Go.RowKit
attribute [local go_sem ↓] Go.wp_at_zero Go.wp_at_succ

def sumStep (z : Int) (b : UInt8) : Int := bits BinOp.xor IntKind.u32 z ((b.toNat : Int) % 4294967296) * 16777619 % 4294967296
def sumZ (l : List UInt8) : Int := l.foldl sumStep 2166136261
def b4 (z : Int) : ByteArray := (((ByteArray.empty.push (UInt8.ofNat (z / 16777216 % 256).toNat)).push (UInt8.ofNat (z / 65536 % 256).toNat)).push (UInt8.ofNat (z / 256 % 256).toNat)).push (UInt8.ofNat (z % 256).toNat)
/-- The four bytes of a sum. -/
def sumS (s : ByteArray) : ByteArray := b4 (sumZ s.data.toList)

theorem conv4 (w : World) (g : Nat) (a b c d : Int) (h0 : w.cell? ⟨g, 0, none⟩ = some (.int .u8 a)) (h1 : w.cell? ⟨g, 1, none⟩ = some (.int .u8 b)) (h2 : w.cell? ⟨g, 2, none⟩ = some (.int .u8 c)) (h3 : w.cell? ⟨g, 3, none⟩ = some (.int .u8 d)) :
    (convert 54 9 (.slice (some ⟨g, 0, none⟩) 4 4)).run Tryz.prog w = .ok (.string ((((ByteArray.empty.push (UInt8.ofNat a.toNat)).push (UInt8.ofNat b.toNat)).push (UInt8.ofNat c.toNat)).push (UInt8.ofNat d.toNat))) w := by
  rw [run_convert_bytes_string w 54 9 5 _ _ _ Tryz.underlying54 Tryz.underlying5 Tryz.underlying9]
  refine run_bytesToString w ⟨g, 0, none⟩ 4 4 [a, b, c, d] ?_
  go_simp

theorem sumZ_succ (l : List UInt8) (k : Nat) (h : k < l.length) : sumZ (l.take (k + 1)) = sumStep (sumZ (l.take k)) l[k] := by
  unfold sumZ
  rw [List.take_succ_eq_append_getElem h, List.foldl_append]
  rfl

def SumRel (s : ByteArray) (w : World) (h i : Value) (wr : World) : Prop := wr = w ∧ ∃ k : Nat, k ≤ s.size ∧ i = .int .i64 k ∧ h = .int .u32 (sumZ (s.data.toList.take k))

set_option maxHeartbeats 1000000 in
set_option maxRecDepth 20000 in
theorem sum_any (s : ByteArray) (hs : s.size < 4611686018427387904) (w : World) : Calls Tryz.prog 76 #[.string s] w fun e w' => e = .returned (.string (sumS s)) ∧ Fr (fun _ => False) w w' (fun _ => False) := by
  go_enter Tryz.func76, Tryz.ntmps76
  go_wp2
  go_loopw [3, 4] (fun h i wr => SumRel s w h i wr) (fun _ i _ => s.size - (intOf i).toNat)
  case atStart => exact ⟨rfl, 0, Nat.zero_le _, rfl, rfl⟩
  case round =>
    obtain ⟨rfl, k, hk, rfl, rfl⟩ := hrel
    by_cases hlt : k < s.size
    · have hz := sumZ_succ s.data.toList k (by rw [Array.length_toList]; exact hlt)
      have HZ := hide hz
      clear hz
      generalize sumZ (s.data.toList.take k) = z at *
      go_wp2
      go_roundw
      case rel =>
        refine ⟨rfl, k + 1, hlt, by go_num, ?_⟩
        rw [unhide HZ]
        rfl
      case measure => simp [intOf]; omega
    · have e : s.data.toList.take k = s.data.toList := List.take_of_length_le (by rw [Array.length_toList]; exact Nat.le_of_not_lt hlt)
      have hS : sumS s = b4 (sumZ s.data.toList) := rfl
      rw [e]
      generalize sumZ s.data.toList = z at *
      have hrow := heap_alloc_new wr (.cells #[.int .u8 (z / 16777216 % 256), .int .u8 (z / 65536 % 256), .int .u8 (z / 256 % 256), .int .u8 (z % 256)] 5)
      have hcv := conv4 (wr.alloc (.cells #[.int .u8 (z / 16777216 % 256), .int .u8 (z / 65536 % 256), .int .u8 (z / 256 % 256), .int .u8 (z % 256)] 5)) wr.heap.size _ _ _ _ (cell_of_row _ _ 0 _ 5 (0, 0) hrow) (cell_of_row _ _ 1 _ 5 (0, 0) hrow) (cell_of_row _ _ 2 _ 5 (0, 0) hrow) (cell_of_row _ _ 3 _ 5 (0, 0) hrow)
      change _ = Result.ok (Value.string (b4 z)) _ at hcv
      generalize b4 z = R at *
      have HS := hide hS
      clear hrow hS e
      go_wp2
      go_ret
      rw [unhide HS]
      exact ⟨rfl, (Fr.refl _ wr).alloc _⟩

end Go.Proofs.YtfmbebofllgmoaaGreatDoor
namespace Go.Proofs.YtfmbebofllgmoaaGreatDoor
open Go.RowKit
attribute [local go_sem ↓] Go.wp_at_zero Go.wp_at_succ

def one (k : Nat) : ByteArray := ByteArray.empty.push (UInt8.ofNat k)
/-- A body of kind, of and n. -/
def bodyS (k : Nat) (o n : Nat) : ByteArray := if k = 3 ∨ k = 4 then one k ++ varS o ++ varS n else one k ++ varS n
/-- Files, one behind the other. -/
def filesS (l : List Int) (r : ByteArray) : ByteArray := l.foldl (fun r z => r ++ varS z.toNat) r
/-- A body of files. -/
def batchS (l : List Int) : ByteArray := filesS l (one 2 ++ varS l.length)

theorem varS_small (n : Nat) (h : n < 4611686018427387904) : (varS n).size ≤ 64 := by
  have g : ∀ (k n : Nat), n < 128 ^ k → (varS n).size ≤ k + 1 := by
    intro k
    induction k with
    | zero => intro n hn; have : n = 0 := by omega
              subst this; rw [varS_eq, if_pos (by omega)]; simp
    | succ k ih =>
      intro n hn
      rw [varS_eq]
      by_cases h : n < 128
      · rw [if_pos h]; simp
      · rw [if_neg h]
        have := ih (n / 128) (by rw [Nat.pow_succ] at hn; omega)
        simp [ByteArray.size_append]
        omega
  have := g 9 n (by omega)
  omega

set_option maxHeartbeats 1000000 in
set_option maxRecDepth 20000 in
/-- Clocks and ends. -/
theorem body_one (k : Nat) (o n : Nat) (fv : Value) (a : Option Addr) (l c : Nat) (hfv : fv = .slice a l c) (hk : k = 1 ∨ k = 5) (hn : n < 4611686018427387904) (w : World) :
    Calls Tryz.prog 112 #[.agg #[.int .i64 k, .int .i64 o, .int .i64 n, fv]] w fun e w' => e = .returned (.string (bodyS k o n)) ∧ Fr (fun _ => False) w w' (fun _ => False) := by
  subst hfv
  have h1 := varint_any n hn
  have hs := varS_small n hn
  have hb : bodyS k o n = one k ++ varS n := by unfold bodyS; rw [if_neg (by omega)]
  have hz : ¬ 9223372036854775807 < (one k).size + (varS n).size := by
    have : (one k).size = 1 := by unfold one; simp
    omega
  have hwr : IntKind.u8.wrap (k : Int) = k := by rcases hk with rfl | rfl <;> rfl
  have hk2 : ((k : Int) == 2) = false := by rcases hk with rfl | rfl <;> rfl
  have hk3 : ((k : Int) == 3) = false := by rcases hk with rfl | rfl <;> rfl
  have hk4 : ((k : Int) == 4) = false := by rcases hk with rfl | rfl <;> rfl
  have hcv : ∀ W : World, ∀ g, W.cell? ⟨g, 0, none⟩ = some (.int .u8 k) → (convert 54 9 (.slice (some ⟨g, 0, none⟩) 1 1)).run Tryz.prog W = .ok (.string (one k)) W := fun W g h => by
    have := conv1 W g k h
    rw [Int.toNat_natCast] at this
    exact this
  generalize varS n = V at *
  generalize one k = O at *
  have HB := hide hb
  clear hb hs hk hn
  go_enter Tryz.func112, Tryz.ntmps112
  go_wp2_with (go_at_call 132; refine (h1 _).mono ?_; rintro e w1 ⟨rfl, f1⟩; have F1 := hide f1; clear f1)
  go_ret
  rw [unhide HB]
  exact ⟨rfl, (((Fr.refl _ w).alloc _).alloc _).trans (unhide F1)⟩

set_option maxHeartbeats 1000000 in
set_option maxRecDepth 20000 in
/-- Picks and lots. -/
theorem body_two (k : Nat) (o n : Nat) (fv : Value) (a : Option Addr) (l c : Nat) (hfv : fv = .slice a l c) (hk : k = 3 ∨ k = 4) (hn : n < 4611686018427387904) (ho : o < 4611686018427387904) (w : World) :
    Calls Tryz.prog 112 #[.agg #[.int .i64 k, .int .i64 o, .int .i64 n, fv]] w fun e w' => e = .returned (.string (bodyS k o n)) ∧ Fr (fun _ => False) w w' (fun _ => False) := by
  subst hfv
  have h1 := varint_any n hn
  have h2 := varint_any o ho
  have hs := varS_small n hn
  have hs2 := varS_small o ho
  have hb : bodyS k o n = one k ++ varS o ++ varS n := by unfold bodyS; rw [if_pos hk]
  have h1s : (one k).size = 1 := by unfold one; simp
  have hz : ¬ 9223372036854775807 < (one k).size + (varS o).size := by omega
  have hz2 : ¬ 9223372036854775807 < (one k).size + (varS o).size + (varS n).size := by omega
  have hwr : IntKind.u8.wrap (k : Int) = k := by rcases hk with rfl | rfl <;> rfl
  have hk2 : ((k : Int) == 2) = false := by rcases hk with rfl | rfl <;> rfl
  have hcv : ∀ W : World, ∀ g, W.cell? ⟨g, 0, none⟩ = some (.int .u8 k) → (convert 54 9 (.slice (some ⟨g, 0, none⟩) 1 1)).run Tryz.prog W = .ok (.string (one k)) W := fun W g h => by
    have := conv1 W g k h
    rw [Int.toNat_natCast] at this
    exact this
  have hc1 : ∀ m : Nat, m < 4611686018427387904 → ∀ W : World, Fr (fun _ => False) w W (fun _ => False) → Calls Tryz.prog 132 #[.int .i64 m] W fun e w' => e = .returned (.string (varS m)) ∧ Fr (fun _ => False) W w' (fun _ => False) ∧ Fr (fun _ => False) w w' (fun _ => False) := fun m hm W hW => (varint_any m hm W).mono fun _ _ ⟨he, hf⟩ => ⟨he, hf, hW.trans hf⟩
  have F1 := hide (((Fr.refl (fun _ => False) w).alloc (.cells #[.int .i64 k, .int .i64 o, .int .i64 n, .slice a l c] 49)).alloc (.cells #[.int .u8 k] 5))
  generalize one k = O at *
  generalize hvS : varS = vS at *
  have HB := hide hb
  have HN := hide hn
  have HO := hide ho
  have HC := hide hc1
  clear hb hs hs2 h1s h1 h2 hc1 hvS hn ho
  rcases hk with rfl | rfl
  · have hk3 : (((3 : Nat) : Int) == 3) = true := rfl
    go_enter Tryz.func112, Tryz.ntmps112
    go_wp2
    go_region_with (go_at_call 132; refine (unhide HC _ (by first | exact unhide HO | exact unhide HN) _ (by first | exact unhide F1 | exact (unhide F1).drew)).mono ?_; rintro e w1 ⟨rfl, f1, f2⟩; have ck := fun j q hj => f1.cell j q hj (fun h => h); have F1 := hide f2; clear f1 f2)
    all_goals
      go_wp2
      refine bodyPost_ret (v := .string (O ++ vS o ++ vS n)) (by simp [results, Tryz.results112, go_sem, Act.put]) rfl ?_
      rw [unhide HB]
      exact ⟨rfl, by first | exact unhide F1 | exact (unhide F1).drew⟩
  · have hk3 : (((4 : Nat) : Int) == 3) = false := rfl
    have hk4 : (((4 : Nat) : Int) == 4) = true := rfl
    go_enter Tryz.func112, Tryz.ntmps112
    go_wp2
    go_region_with (go_at_call 132; refine (unhide HC _ (by first | exact unhide HO | exact unhide HN) _ (by first | exact unhide F1 | exact (unhide F1).drew)).mono ?_; rintro e w1 ⟨rfl, f1, f2⟩; have ck := fun j q hj => f1.cell j q hj (fun h => h); have F1 := hide f2; clear f1 f2)
    all_goals
      go_wp2
      refine bodyPost_ret (v := .string (O ++ vS o ++ vS n)) (by simp [results, Tryz.results112, go_sem, Act.put]) rfl ?_
      rw [unhide HB]
      exact ⟨rfl, by first | exact unhide F1 | exact (unhide F1).drew⟩

theorem filesS_succ (l : List Int) (r : ByteArray) (k : Nat) (h : k < l.length) : filesS (l.take (k + 1)) r = filesS (l.take k) r ++ varS l[k].toNat := by
  unfold filesS
  rw [List.take_succ_eq_append_getElem h, List.foldl_append]
  rfl
theorem after_two {w w1 : World} {S' : Nat → Prop} {o1 o2 : Obj} (f1 : Fr (fun _ => False) ((w.alloc o1).alloc o2) w1 S') : w.heap.size < w1.heap.size := by
  have := f1.size
  simp at this
  omega
theorem box_three {w w1 : World} {S' : Nat → Prop} {o2 : Obj} {x0 x1 x2 x3 : Value} (f1 : Fr (fun _ => False) ((w.alloc (.cells #[x0, x1, x2, x3] 49)).alloc o2) w1 S') : w1.cell? ⟨w.heap.size, 3, none⟩ = some x3 := by
  have z3 : (w.alloc (.cells #[x0, x1, x2, x3] 49)).heap.size = w.heap.size + 1 := by simp
  have h1 : ((w.alloc (.cells #[x0, x1, x2, x3] 49)).alloc o2).heap[w.heap.size]? = some (.cells #[x0, x1, x2, x3] 49) := (Below.heap_alloc _ _ _ (by rw [z3]; omega)).trans (heap_alloc_new w _)
  rw [f1.cell _ _ (by simp; omega) (fun h => h)]
  exact cell_of_row _ _ 3 _ 49 (0, 0) h1
def BodyRel (l : List Int) (r0 : ByteArray) (w : World) (u i : Value) (wr : World) : Prop := ∃ (k : Nat), k ≤ l.length ∧ i = .int .i64 k ∧ u = .string (filesS (l.take k) r0) ∧ (filesS (l.take k) r0).size ≤ 100 + 64 * k ∧ Fr (fun _ => False) w wr (fun _ => False)

set_option maxHeartbeats 1000000 in
set_option maxRecDepth 20000 in
/-- Batches. -/
theorem body_files (o n : Int) (fv : Value) (l : List Int) {P : Nat → Prop} (w : World) (hP : ∀ q, P q → q < w.heap.size) (hl : IntsIn w fv l P) (h8 : l.length ≤ 8) (hz : ∀ z, z ∈ l → 0 ≤ z ∧ z < 8) :
    Calls Tryz.prog 112 #[.agg #[.int .i64 2, .int .i64 o, .int .i64 n, fv]] w fun e w' => e = .returned (.string (batchS l)) ∧ Fr (fun _ => False) w w' (fun _ => False) := by
  obtain ⟨a, c, rfl, hc⟩ := hl
  have hlen : l.length < 4611686018427387904 := by omega
  have hs2 := varS_small l.length hlen
  have h1s : (one 2).size = 1 := by unfold one; simp
  have hzz : ¬ 9223372036854775807 < (one 2).size + (varS l.length).size := by omega
  have hr0 : (one 2 ++ varS l.length).size ≤ 100 := by rw [ByteArray.size_append]; omega
  have hcv : ∀ W : World, ∀ g, W.cell? ⟨g, 0, none⟩ = some (.int .u8 2) → (convert 54 9 (.slice (some ⟨g, 0, none⟩) 1 1)).run Tryz.prog W = .ok (.string (one 2)) W := fun W g h => conv1 W g 2 h
  have hbs : batchS l = filesS l (one 2 ++ varS l.length) := rfl
  have h1 := varint_any l.length hlen
  have h2 : ∀ m : Nat, m < 8 → ∀ W, Calls Tryz.prog 132 #[.int .i64 m] W fun e w' => e = .returned (.string (varS m)) ∧ Fr (fun _ => False) W w' (fun _ => False) := fun m hm => varint_any m (by omega)
  have h3 : ∀ m : Nat, m < 8 → (varS m).size ≤ 64 := fun m hm => varS_small m (by omega)
  generalize one 2 = O at *
  generalize hvl : varS l.length = V at *
  have HC := hide hc
  have HP := hide hP
  have HZ := hide hz
  have H2 := hide h2
  have H3 := hide h3
  have HR0 := hide hr0
  have HBS := hide hbs
  clear hc hP hz h2 h3 hr0 hbs hs2 h1s hvl hlen
  go_enter Tryz.func112, Tryz.ntmps112
  go_wp2_with (go_at_call 132; refine (h1 _).mono ?_; rintro e w1 ⟨rfl, f1⟩; have C3 := hide (box_three f1); have F1 := hide ((((Fr.refl (fun _ => False) w).alloc _).alloc _).trans f1); have hsz := after_two f1; clear f1)
  go_loopw [3, 4] (fun u i wr => BodyRel l (O ++ V) w1 u i wr) (fun _ i _ => l.length - (intOf i).toNat)
  case atStart => exact ⟨0, Nat.zero_le _, rfl, rfl, unhide HR0, Fr.refl _ w1⟩
  case round =>
    obtain ⟨k, hk, rfl, rfl, hsize, hf⟩ := hrel
    have c3 := (hf.cell w.heap.size 3 hsz (fun h => h)).trans (unhide C3)
    by_cases hlt : k < l.length
    · rcases unhide HC with hz | ⟨q, off, rfl, hq, hcell⟩
      · rw [hz] at hlt; simp at hlt
      have cz := (((unhide F1).trans hf).cell q (off + k) (unhide HP q hq) (fun h => h)).trans (hcell k hlt)
      have hget : l.getD k 0 = l[k] := by simp [List.getD, hlt]
      rw [hget] at cz
      have HSU := hide (filesS_succ l (O ++ V) k hlt)
      obtain ⟨z0, z8⟩ := unhide HZ l[k] (List.getElem_mem hlt)
      have HF := hide hf
      clear hcell hget hf
      generalize l[k] = z at *
      obtain ⟨m, rfl⟩ : ∃ m : Nat, z = m := ⟨z.toNat, by omega⟩
      have hvs := unhide H3 m (by omega)
      have h7 := unhide H2 m (by omega)
      rw [Int.toNat_natCast] at HSU
      generalize varS m = U at *
      generalize filesS (l.take k) (O ++ V) = R at *
      have hzR : ¬ 9223372036854775807 < R.size + U.size := by omega
      have HSZ := hide hsize
      have HVS := hide hvs
      clear hsize hvs
      go_wp2_with (go_at_call 132; refine (h7 _).mono ?_; rintro e w2 ⟨rfl, f2⟩; have F2 := hide f2; clear f2)
      go_roundw
      case rel =>
        have h5 := unhide HSZ
        have h6 := unhide HVS
        refine ⟨k + 1, by omega, by go_num, by rw [unhide HSU], by rw [unhide HSU, ByteArray.size_append]; omega, (unhide HF).trans (unhide F2)⟩
      case measure => simp [intOf]; omega
    · have e : l.take k = l := List.take_of_length_le (by omega)
      rw [e] at hsize ⊢
      have hb := unhide HBS
      generalize filesS l (O ++ V) = R at *
      have HB := hide hb
      clear hb hsize e
      go_wp2
      go_ret
      rw [unhide HB]
      exact ⟨rfl, (unhide F1).trans hf⟩
end Go.Proofs.YtfmbebofllgmoaaGreatDoor
namespace Go.Proofs.YtfmbebofllgmoaaGreatDoor
open Go.RowKit
attribute [local go_sem ↓] Go.wp_at_zero Go.wp_at_succ

/-- The block of a slice's own row. -/
def own (v : Value) (k : Nat) : Prop := v.ownBlock = some k
/-- The cells of bytes. -/
def u8s (b : ByteArray) : List Value := b.data.toList.map fun x => Value.int .u8 (x.toNat : Int)
/-- A slice of bytes that is nobody else's. -/
def OwnB (w : World) (B : Nat) (v : Value) (b : ByteArray) : Prop :=
  w.ownsRow B 5 1 v b.size (u8s b) ∨ (∃ g, v = .slice (some ⟨g, 0, none⟩) b.size b.size ∧ B ≤ g ∧ g < w.heap.size ∧ ∀ j u, (u8s b)[j]? = some u → w.cell? ⟨g, 0 + j, none⟩ = some u)
theorem addr_add (g off j : Nat) : (⟨g, off, none⟩ : Addr).add j = ⟨g, off + j, none⟩ := by
  unfold Addr.add
  split
  · subst_vars; rfl
  · rfl
theorem OwnB.bump {w : World} {B : Nat} {v : Value} {b : ByteArray} (h : OwnB w B v b) : ∀ k, own v k → B ≤ k ∧ k < w.heap.size := by
  intro k hk
  rcases h with h | ⟨g, rfl, h1, h2, _⟩
  · exact World.ownsRow.lt h k hk
  · simp only [own, Value.ownBlock, Option.some.injEq] at hk
    subst hk
    exact ⟨h1, h2⟩
theorem OwnB.block {w w' : World} {B : Nat} {v : Value} {b : ByteArray} (h : OwnB w B v b) (hb : ∀ q, own v q → w'.heap[q]? = w.heap[q]?) : OwnB w' B v b := by
  rcases h with h | ⟨g, rfl, h1, h2, h3⟩
  · exact .inl (ownsRow_of_block h hb)
  · have e := hb g rfl
    refine .inr ⟨g, rfl, h1, ?_, fun j u hj => ?_⟩
    · rw [Array.getElem?_eq_getElem h2] at e
      exact (Array.getElem?_eq_some_iff.1 e).1
    · rw [World.cell?_of_block (w := w) (a := ⟨g, 0 + j, none⟩) e]
      exact h3 j u hj
theorem OwnB.alloc {w : World} {B : Nat} {v : Value} {b : ByteArray} (h : OwnB w B v b) (o : Obj) : OwnB (w.alloc o) B v b := h.block fun q hq => Below.heap_alloc _ _ _ (h.bump q hq).2
theorem u8s_length (b : ByteArray) : (u8s b).length = b.size := by simp [u8s]
theorem u8s_append (a b : ByteArray) : u8s (a ++ b) = u8s a ++ u8s b := by simp [u8s]
theorem info5 : ∃ i, Tryz.prog.info? 5 = some i ∧ i.zero = some (.int .u8 0) ∧ i.size = 1 ∧ i.bytes = 1 := by
  have h : (Tryz.prog.info? 5).map (fun i => (i.zero, i.size, i.bytes)) = some (some (.int .u8 0), 1, 1) := by kernel_rfl
  obtain ⟨i, hi, hb⟩ := Option.map_eq_some_iff.1 h
  injection hb with h1 h2
  injection h2 with h2 h3
  exact ⟨i, hi, h1, h2, h3⟩

/-- Bytes are put behind a slice's own. -/
theorem wpList_bytes {ops : Array Oper} {rest : List Oper} {o : Oper} {a : Act} {Q : Exit → Act → World → Prop} {w : World} {B : Nat} {v : Value} {b c : ByteArray} (hgd : o.guard = none) (sv xv : Operand)
    (ho : o.op = .call { callee := .builtin .append, args := #[sv, xv], argTypes := #[54, 54] }) {ad : Addr} {cap : Nat}
    (hs : a.eval sv = v) (hx : a.eval xv = .slice (some ad) c.size cap) (hrow : OwnB w B v b) (hc : ∀ j u, (u8s c)[j]? = some u → w.cell? (ad.add j) = some u) (h0 : 0 < c.size) (hn : b.size + c.size ≤ 1000000000) (hB : B ≤ w.heap.size)
    (h : ∀ v' w', OwnB w' B v' (b ++ c) → Fr (own v) w w' (own v') → wpList Tryz.prog ops Q rest (a.put o.dst v') w') : wpList Tryz.prog ops Q (o :: rest) a w := by
  obtain ⟨i, hi, hz, hs1, hby⟩ := info5
  have hm : b.size + c.size ≤ maxLen := by simp only [maxLen]; omega
  rcases hrow with hrow | ⟨g0, hg0, hgB, hgl, hgc⟩
  · refine wpList_append_lies _ hgd sv xv 54 ho B 5 i _ 1 1 Tryz.underlying54 hi hz hs1 hby rfl (by omega) v b.size _ hs hrow ad c.size cap (u8s c) hx (by rw [u8s_length]; omega) hc (by simp [u8s, Value.oneCell']) h0 hm (by omega) hB w.heap.size rfl ?_
    intro g cp w' h1 h2 h3 h4
    refine h _ w' ?_ ?_
    · refine .inl ?_
      rw [ByteArray.size_append, u8s_append]
      exact h1
    · refine ⟨h2.os, h2.tape, h2.output, h2.size, fun k hk hn => h2.block k hk (fun e => hn e.symm), ?_⟩
      intro k hk e
      simp only [own, Value.ownBlock, Option.some.injEq] at e
      subst e
      rcases h3 with h3 | h3
      · exact h3
      · omega
  · subst hg0
    refine wpList_plain hgd fun K hK => ?_
    obtain ⟨v', w', hr, h1, h2⟩ := run_append_arg_grows (P := Tryz.prog) w 54 o.type 5 i _ 1 1 Tryz.underlying54 hi hz hs1 hby rfl (by omega) ⟨g0, 0, none⟩ b.size b.size (u8s b) (by rw [u8s_length]; omega) (fun j u hj => by rw [addr_add]; exact hgc j u hj) ad c.size cap (u8s c) (by rw [u8s_length]; omega) hc (by omega) hm (by omega)
    unfold Oper.wp execOp
    simp only [ho, resolve, invoke, builtin, Sem.run_bind, Sem.run_pure, Result.andThen_ok, List.map_toArray, List.map_cons, List.map_nil, hs, hx, hr]
    refine hK _ _ (h v' w' (.inl ?_) ?_)
    · rw [ByteArray.size_append, u8s_append]
      exact ⟨h1.1, h1.2.imp id fun ⟨g, cap, cur, e1, e2, r⟩ => ⟨g, cap, cur, e1, by omega, r⟩⟩
    · refine ⟨h2.os, h2.tape, h2.output, h2.size, fun k hk _ => h2.block k hk (by simp), fun k hk e => ?_⟩
      have := (World.ownsRow.lt h1 k e).1
      omega

/-- Bytes in memory that may be read. -/
def BytesAt (w : World) (v : Value) (b : ByteArray) : Prop := ∃ g off cap, v = .slice (some ⟨g, off, none⟩) b.size cap ∧ ∀ j u, (u8s b)[j]? = some u → w.cell? ⟨g, off + j, none⟩ = some u
theorem OwnB.bytes {w : World} {B : Nat} {v : Value} {b : ByteArray} (h : OwnB w B v b) (h0 : 0 < b.size) : ∃ g cap, v = .slice (some ⟨g, 0, none⟩) b.size cap ∧ B ≤ g ∧ (∀ j u, (u8s b)[j]? = some u → w.cell? ⟨g, 0 + j, none⟩ = some u) := by
  rcases h with h | ⟨g, hv, hB, _, hc⟩
  case inr => exact ⟨g, _, hv, hB, hc⟩
  rcases h.2 with ⟨_, h1⟩ | ⟨g, cap, cur, hv, hB, hg, h1, h2, h3, h4⟩
  · omega
  refine ⟨g, cap, hv, hB, fun j u hj => ?_⟩
  rw [Nat.zero_add, cell_of_row w g j cur 5 (0, 0) hg]
  rw [← h4, List.getElem?_take] at hj
  split at hj
  · rw [Array.getElem?_toList] at hj; exact hj
  · cases hj
theorem u8s_get (b : ByteArray) (j : Nat) (h : j < b.size) : (u8s b)[j]? = some (.int .u8 ((b.data.toList[j]'(by simpa using h)).toNat : Int)) := by
  have hj : j < b.data.toList.length := by simpa using h
  rw [u8s, List.getElem?_map, List.getElem?_eq_getElem hj]
  rfl

set_option maxHeartbeats 1000000 in
set_option maxRecDepth 20000 in
/-- The sum of bytes. -/
theorem psum_any {w : World} {v : Value} {b : ByteArray} (h : BytesAt w v b) (hs : b.size ≤ 1000000000) : Calls Tryz.prog 121 #[v] w fun e w' => e = .returned (.int .u32 (sumZ b.data.toList)) ∧ w' = w := by
  obtain ⟨g, off, cap, rfl, hc⟩ := h
  have HC := hide hc
  clear hc
  go_enter Tryz.func121, Tryz.ntmps121
  go_wp2
  go_loopw [3, 8] (fun h i wr => SumRel b w h i wr) (fun _ i _ => b.size - (intOf i).toNat)
  case atStart => exact ⟨rfl, 0, Nat.zero_le _, rfl, rfl⟩
  case round =>
    obtain ⟨rfl, k, hk, rfl, rfl⟩ := hrel
    by_cases hlt : k < b.size
    · have hz := sumZ_succ b.data.toList k (by rw [Array.length_toList]; exact hlt)
      have HZ := hide hz
      have hcell := unhide HC k _ (u8s_get b k hlt)
      clear hz
      generalize sumZ (b.data.toList.take k) = z at *
      go_wp2
      go_roundw
      case rel =>
        refine ⟨rfl, k + 1, hlt, by go_num, ?_⟩
        rw [unhide HZ]
        rfl
      case measure => simp [intOf]; omega
    · have e : b.data.toList.take k = b.data.toList := List.take_of_length_le (by rw [Array.length_toList]; exact Nat.le_of_not_lt hlt)
      rw [e]
      go_wp2
      go_ret
      exact ⟨rfl, rfl⟩

theorem b4_size (z : Int) : (b4 z).size = 4 := by unfold b4; simp
theorem b4_cells (z : Int) : u8s (b4 z) = [.int .u8 (z / 16777216 % 256), .int .u8 (z / 65536 % 256), .int .u8 (z / 256 % 256), .int .u8 (z % 256)] := by
  unfold u8s b4
  simp
  omega
theorem Fr.unalloc {S S' : Nat → Prop} {w w' : World} {o : Obj} (h : Fr S (w.alloc o) w' S') : Fr S w w' S' :=
  ⟨h.os, h.tape, h.output, Nat.le_trans (by simp) h.size, fun k hk hn => (h.same k (by simp; omega) hn).trans (Below.heap_alloc _ _ _ hk), fun k hk e => h.old k (by simp; omega) e⟩

set_option maxHeartbeats 1000000 in
set_option maxRecDepth 20000 in
/-- The sum of the body is put behind b. -/
theorem appendSum_any {w : World} {B : Nat} {v u : Value} {b c : ByteArray} (h : OwnB w B v b) (hu : BytesAt w u c) (hc : c.size ≤ 1000000000) (hb : b.size ≤ 900000000) (hB : B ≤ w.heap.size) :
    Calls Tryz.prog 100 #[v, u] w fun e w' => ∃ v', e = .returned v' ∧ OwnB w' B v' (b ++ sumS c) ∧ Fr (own v) w w' (own v') := by
  have h1 := psum_any hu hc
  have hS : sumS c = b4 (sumZ c.data.toList) := rfl
  generalize sumZ c.data.toList = z at *
  have HS := hide hS
  have H := hide (h.alloc (.cells #[.int .u8 (z / 16777216 % 256), .int .u8 (z / 65536 % 256), .int .u8 (z / 256 % 256), .int .u8 (z % 256)] 5))
  have HC := hide (b4_cells z)
  have H4 := hide (b4_size z)
  clear hS h hu
  go_enter Tryz.func100, Tryz.ntmps100
  go_wp2_with (first | (go_at_call 121; refine h1.mono ?_; rintro e w1 ⟨rfl, rfl⟩) | (at_builtin; refine wpList_bytes (c := b4 z) (ad := ⟨w1.heap.size, 0, none⟩) (cap := 4) rfl (.tmp 8) (.tmp 20) rfl rfl (by rw [unhide H4]; rfl) (unhide H) ?_ (by rw [unhide H4]; omega) (by rw [unhide H4]; omega) (by simp; omega) ?_))
  · rw [unhide HC]
    intro j u hu
    rw [addr_add, Nat.zero_add, cell_of_row _ _ j _ 5 (0, 0) (heap_alloc_new _ _)]
    simpa using hu
  · intro v' w' o' f'
    have O' := hide o'
    have F' := hide f'
    clear o' f'
    go_wp2
    go_ret
    refine ⟨_, rfl, ?_, (unhide F').unalloc⟩
    rw [unhide HS]
    exact unhide O'
end Go.Proofs.YtfmbebofllgmoaaGreatDoor
namespace Go.Proofs.YtfmbebofllgmoaaGreatDoor
open Go.RowKit
attribute [local go_sem ↓] Go.wp_at_zero Go.wp_at_succ

theorem within_any (n a b : Int) (w : World) : Calls Tryz.prog 124 #[.int .i64 n, .int .i64 a, .int .i64 b] w fun e w' => e = .returned (.bool (decide (a ≤ n) && decide (n ≤ b))) ∧ w' = w := by
  by_cases h : a ≤ n
  · go_enter Tryz.func124, Tryz.ntmps124
    go_wp2
    go_ret
    exact ⟨by simp [h], rfl⟩
  · go_enter Tryz.func124, Tryz.ntmps124
    go_wp2
    go_ret
    exact ⟨ret_bool (by have : decide (a ≤ n) = false := by simpa using h
                        rw [this]; rfl), rfl⟩

theorem str_pos {s : ByteArray} (h : 0 < s.size) : s.toList.isEmpty = false := by
  have : s.toList.length = s.size := by rw [Go.ByteArray.toList_eq]; rfl
  cases hl : s.toList with
  | nil => rw [hl] at this; simp at this; omega
  | cons a t => rfl
theorem str_zero {s : ByteArray} (h : ¬ 0 < s.size) : s = ⟨#[]⟩ := ByteArray.ext (Array.eq_empty_of_size_eq_zero (by have : s.data.size = s.size := rfl
                                                                                                                     omega))
theorem behind_any (s : ByteArray) (w : World) : Calls Tryz.prog 60 #[.string s] w fun e w' => e = .returned (.int .i64 (if 0 < s.size then 5 else 1)) ∧ w' = w := by
  by_cases h : 0 < s.size
  · have hb := str_pos h
    go_enter Tryz.func60, Tryz.ntmps60
    go_wp2
    go_ret
    exact ⟨by simp, rfl⟩
  · cases str_zero h
    go_enter Tryz.func60, Tryz.ntmps60
    go_wp2
    go_ret
    exact ⟨rfl, rfl⟩

/-- The byte at a place, 0 behind the end. -/
def byteAt (s : ByteArray) (i : Nat) : Nat := (s.data.toList.getD i 0).toNat
theorem byteAt_lt (s : ByteArray) (i : Nat) : byteAt s i < 256 := UInt8.toNat_lt _
/-- How many bytes a record's body has, and why there is none: program's 'length'. -/
def lenM (s : ByteArray) : Int × Int := if s.size = 0 ∨ (128 ≤ byteAt s 0 ∧ s.size = 1) then (0, 2) else if byteAt s 0 < 1 ∨ 40 < byteAt s 0 then (0, 4) else (byteAt s 0, 0)
theorem byteAt_eq (s : ByteArray) (k : Nat) (h : k < s.size) : byteAt s k = (s[k]'h).toNat := by
  obtain ⟨⟨l⟩⟩ := s
  have hl : k < l.length := h
  have e : (ByteArray.mk ⟨l⟩)[k]'hl = l.getD k 0 := by
    simp only [List.getD, List.getElem?_eq_getElem hl, Option.getD_some]
    rfl
  simp only [e, byteAt]

set_option maxRecDepth 20000 in
theorem length_any (s : ByteArray) (hs : s.size ≤ 1000000000) (w : World) : Calls Tryz.prog 99 #[.string s] w fun e w' => e = .returned (.tuple #[.int .i64 (lenM s).1, .int .i64 (lenM s).2]) ∧ w' = w := by
  by_cases h : 0 < s.size
  · have e0 := byteAt_eq s 0 h
    have hb := str_pos h
    have hlt := byteAt_lt s 0
    have hn : ¬ s.size = 0 := by omega
    have hl : lenM s = if (128 ≤ byteAt s 0 ∧ s.size = 1) then (0, 2) else if byteAt s 0 < 1 ∨ 40 < byteAt s 0 then (0, 4) else ((byteAt s 0 : Int), 0) := by simp only [lenM, hn, false_or]
    rw [e0] at hlt hl
    clear e0
    by_cases h1 : 128 ≤ (s[0]'h).toNat ∧ s.size = 1
    · rw [if_pos h1] at hl
      rw [hl]
      obtain ⟨h1, h2⟩ := h1
      have h3 : (s.size : Int) = 1 := by omega
      have h1' : (128 : Int) ≤ ((s[0]'h).toNat : Int) := by omega
      go_enter Tryz.func99, Tryz.ntmps99
      go_wp2
      refine bodyPost_ret (v := .tuple #[.int .i64 0, .int .i64 2]) (by simp [results, Tryz.results99, go_sem]) rfl ?_
      exact ⟨rfl, rfl⟩
    · rw [if_neg h1] at hl
      by_cases h2 : (s[0]'h).toNat < 1 ∨ 40 < (s[0]'h).toNat
      · rw [if_pos h2] at hl
        rw [hl]
        rcases h2 with h2 | h2
        · have h3 : ((s[0]'h).toNat : Int) < 1 := by omega
          go_enter Tryz.func99, Tryz.ntmps99
          go_wp2
          refine bodyPost_ret (v := .tuple #[.int .i64 0, .int .i64 4]) (by simp [results, Tryz.results99, go_sem]) rfl ?_
          exact ⟨rfl, rfl⟩
        · by_cases h4 : 128 ≤ (s[0]'h).toNat
          · have h5 : 1 < s.size := by omega
            have h3 : (128 : Int) ≤ ((s[0]'h).toNat : Int) := by omega
            have h6 : (40 : Int) < ((s[0]'h).toNat : Int) := by omega
            have h7 : ¬ ((s[0]'h).toNat : Int) < 1 := by omega
            clear h1 h2 h4 hl hn
            go_enter Tryz.func99, Tryz.ntmps99
            go_wp2
            refine bodyPost_ret (v := .tuple #[.int .i64 0, .int .i64 4]) (by simp [results, Tryz.results99, go_sem]) rfl ?_
            exact ⟨rfl, rfl⟩
          · have h3 : ((s[0]'h).toNat : Int) < 128 := by omega
            have h5 : (40 : Int) < ((s[0]'h).toNat : Int) := by omega
            go_enter Tryz.func99, Tryz.ntmps99
            go_wp2
            refine bodyPost_ret (v := .tuple #[.int .i64 0, .int .i64 4]) (by simp [results, Tryz.results99, go_sem]) rfl ?_
            exact ⟨rfl, rfl⟩
      · rw [if_neg h2] at hl
        rw [hl]
        have h3 : ((s[0]'h).toNat : Int) ≤ 40 := by omega
        have h4 : (1 : Int) ≤ ((s[0]'h).toNat : Int) := by omega
        go_enter Tryz.func99, Tryz.ntmps99
        go_wp2
        refine bodyPost_ret (v := .tuple #[.int .i64 ((s[0]'h).toNat : Int), .int .i64 0]) (by simp [results, Tryz.results99, go_sem]) rfl ?_
        exact ⟨rfl, rfl⟩
  · cases str_zero h
    go_enter Tryz.func99, Tryz.ntmps99
    go_wp2
    refine bodyPost_ret (v := .tuple #[.int .i64 0, .int .i64 2]) (by simp [results, Tryz.results99, go_sem]) rfl ?_
    exact ⟨rfl, rfl⟩
end Go.Proofs.YtfmbebofllgmoaaGreatDoor
namespace Go.Proofs.YtfmbebofllgmoaaGreatDoor
open Go.RowKit
attribute [local go_sem ↓] Go.wp_at_zero Go.wp_at_succ

/-- A varint read: places left, place, number so far, bytes left. -/
def vGo : Nat → Nat → Nat → List Nat → Nat × Nat
  | 0, _, _, _ => (0, 0)
  | _ + 1, _, _, [] => (0, 0)
  | f + 1, k, n, x :: t => if 128 ≤ x then vGo f (k + 1) (n + x % 128 * 128 ^ k) t else if x = 0 ∧ 0 < k then (0, 0) else (n + x % 128 * 128 ^ k, k + 1)
def bs (s : ByteArray) : List Nat := s.data.toList.map UInt8.toNat
def varM (s : ByteArray) : Nat × Nat := vGo 6 0 0 (bs s)
theorem bs_drop (s : ByteArray) (k : Nat) (h : k < s.size) : (bs s).drop k = byteAt s k :: (bs s).drop (k + 1) := by
  have hl : k < (bs s).length := by simpa [bs] using h
  have hl' : k < s.data.toList.length := by simpa using h
  rw [List.drop_eq_getElem_cons hl]
  congr 1
  simp [bs, byteAt, List.getD, List.getElem?_eq_getElem hl']
theorem bs_end (s : ByteArray) (k : Nat) (h : s.size ≤ k) : (bs s).drop k = [] := List.drop_eq_nil_of_le (by simpa [bs] using h)
def VRel (s : ByteArray) (w : World) (h i : Value) (wr : World) : Prop :=
  wr = w ∧ ∃ f k n : Nat, k ≤ s.size ∧ f + k = 6 ∧ h = .int .i64 n ∧ i = .int .i64 k ∧ n < 128 ^ k ∧ vGo f k n ((bs s).drop k) = varM s

theorem vGo_more (f k n x : Nat) (t : List Nat) (h : 128 ≤ x) : vGo (f + 1) k n (x :: t) = vGo f (k + 1) (n + x % 128 * 128 ^ k) t := by
  simp only [vGo]; rw [if_pos h]
theorem vGo_zero (f k n : Nat) (t : List Nat) (h : 0 < k) : vGo (f + 1) k n (0 :: t) = (0, 0) := by
  simp only [vGo]; rw [if_neg (by decide), if_pos (by simpa using h)]
theorem vGo_done (f k n x : Nat) (t : List Nat) (h : x < 128) (h0 : x ≠ 0 ∨ k = 0) : vGo (f + 1) k n (x :: t) = (n + x * 128 ^ k, k + 1) := by
  simp only [vGo]; rw [if_neg (by omega), if_neg (by omega), Nat.mod_eq_of_lt h]
theorem vGo_nil (f k n : Nat) : vGo f k n [] = (0, 0) := by cases f <;> rfl

set_option maxHeartbeats 4000000 in
set_option maxRecDepth 20000 in
theorem varint_any' (s : ByteArray) (hs : s.size ≤ 1000000000) (w : World) : Calls Tryz.prog 138 #[.string s] w fun e w' => e = .returned (.tuple #[.int .i64 (varM s).1, .int .i64 (varM s).2]) ∧ w' = w := by
  by_cases h6 : (6 : Int) < s.size
  all_goals
    go_enter Tryz.func138, Tryz.ntmps138
    go_wp2
    go_loopw [2, 8] (fun h i wr => VRel s w h i wr) (fun _ i _ => 6 - (intOf i).toNat)
    case atStart => exact ⟨rfl, 6, 0, 0, Nat.zero_le _, rfl, rfl, rfl, by decide, rfl⟩
    case round =>
      obtain ⟨rfl, f, k, n, hk, hk6, rfl, rfl, hn, hv⟩ := hrel
      by_cases hlt : k < s.size ∧ k < 6
      · obtain ⟨hlt, hlt6⟩ := hlt
        have e0 := byteAt_eq s k hlt
        have hb := byteAt_lt s k
        rw [bs_drop s k hlt, e0] at hv
        rw [e0] at hb
        clear e0
        obtain ⟨f, rfl⟩ : ∃ g, f = g + 1 := ⟨f - 1, by omega⟩
        by_cases hx : (128 : Int) ≤ ((s[k]'hlt).toNat : Int)
        · rw [vGo_more _ _ _ _ _ (by omega)] at hv
          have HV := hide hv
          clear hv
          rcases (by omega : k = 0 ∨ k = 1 ∨ k = 2 ∨ k = 3 ∨ k = 4 ∨ k = 5) with rfl | rfl | rfl | rfl | rfl | rfl
          all_goals
            go_wp2
            go_roundw
            case rel =>
              refine ⟨rfl, _, _, _, ?_, ?_, ?_, ?_, ?_, unhide HV⟩
              · omega
              · omega
              · exact congrArg (Value.int .i64) (by omega)
              · rfl
              · omega
            case measure => simp [intOf]
        · by_cases h0 : ((s[k]'hlt).toNat : Int) = 0 ∧ 0 < k
          · obtain ⟨h0, hk0⟩ := h0
            rw [(by omega : (s[k]'hlt).toNat = 0), vGo_zero _ _ _ _ hk0] at hv
            have HV := hide hv
            clear hv
            rcases (by omega : k = 1 ∨ k = 2 ∨ k = 3 ∨ k = 4 ∨ k = 5) with rfl | rfl | rfl | rfl | rfl
            all_goals
              go_wp2
              refine bodyPost_ret (v := .tuple #[.int .i64 0, .int .i64 0]) (by simp [results, Tryz.results138, go_sem]) rfl ?_
              exact ⟨by rw [← unhide HV]; rfl, rfl⟩
          · rw [vGo_done _ _ _ _ _ (by omega) (by omega)] at hv
            have HV := hide hv
            clear hv
            by_cases hz : k = 0
            · subst hz
              clear h0
              go_wp2
              all_goals
                refine bodyPost_ret (v := .tuple #[.int .i64 (varM s).1, .int .i64 (varM s).2]) ?_ rfl ⟨rfl, rfl⟩
                rw [← unhide HV]
                simp [results, Tryz.results138, go_sem]
                omega
            · have h1 : ¬ ((s[k]'hlt).toNat : Int) = 0 := by omega
              clear h0
              rcases (by omega : k = 1 ∨ k = 2 ∨ k = 3 ∨ k = 4 ∨ k = 5) with rfl | rfl | rfl | rfl | rfl
              all_goals
                go_wp2
                refine bodyPost_ret (v := .tuple #[.int .i64 (varM s).1, .int .i64 (varM s).2]) ?_ rfl ⟨rfl, rfl⟩
                rw [← unhide HV]
                simp [results, Tryz.results138, go_sem]
                omega
      · have e : vGo f k n ((bs s).drop k) = (0, 0) := by
          by_cases h : k < s.size
          · rw [(by omega : f = 0)]; rfl
          · rw [bs_end s k (by omega), vGo_nil]
        rw [e] at hv
        have HV := hide hv
        clear hv e
        go_wp2
        refine bodyPost_ret (v := .tuple #[.int .i64 0, .int .i64 0]) (by simp [results, Tryz.results138, go_sem]) rfl ?_
        exact ⟨by rw [← unhide HV]; rfl, rfl⟩
end Go.Proofs.YtfmbebofllgmoaaGreatDoor
namespace Go.Proofs.YtfmbebofllgmoaaGreatDoor
open Go.RowKit
attribute [local go_sem ↓] Go.wp_at_zero Go.wp_at_succ

theorem vGo_le : ∀ (f k n : Nat) (l : List Nat), (vGo f k n l).2 ≤ k + l.length
  | 0, _, _, _ => by simp [vGo]
  | _ + 1, _, _, [] => by simp [vGo]
  | f + 1, k, n, x :: t => by
    simp only [vGo, List.length_cons]
    split
    · exact Nat.le_trans (vGo_le f (k + 1) _ t) (by omega)
    · split
      · exact Nat.zero_le _
      · simp only []; omega
/-- The numbers of a row of varints (at most so many), or none. -/
def varsL : Nat → List Nat → Option (List Nat)
  | 0, l => if l = [] then some [] else none
  | f + 1, l => if l = [] then some [] else if (vGo 6 0 0 l).2 = 0 then none else (varsL f (l.drop (vGo 6 0 0 l).2)).map fun r => (vGo 6 0 0 l).1 :: r
def varsM (s : ByteArray) : Option (List Nat) := varsL s.size (bs s)
theorem bs_extract (s : ByteArray) (k : Nat) : bs (s.extract k s.size) = (bs s).drop k := by
  simp [bs, ByteArray.data_extract, List.map_drop]
  apply List.take_of_length_le
  simp
theorem bs_nil {s : ByteArray} : bs s = [] ↔ ¬ 0 < s.size := by
  have : (bs s).length = s.size := by simp [bs]
  constructor
  · intro h; rw [h] at this; simp at this; omega
  · intro h; exact List.eq_nil_of_length_eq_zero (by omega)
theorem bs_len (s : ByteArray) : (bs s).length = s.size := by simp [bs]
def zs (l : List Nat) : List Int := l.map Int.ofNat
def strSz : Value → Nat
  | .string s => s.size
  | _ => 0
def VsRel (s0 : ByteArray) (w : World) (s v : Value) (wr : World) : Prop :=
  ∃ (s' : ByteArray) (ns : List Nat) (f : Nat), s = .string s' ∧ s'.size ≤ f ∧ s'.size + ns.length ≤ s0.size ∧ OwnI wr w.heap.size v (zs ns) ∧ (varsL f (bs s')).map (ns ++ ·) = varsM s0 ∧ Fr (fun _ => False) w wr (fun _ => False)

def VsPost (s : ByteArray) (w : World) (e : Ending) (w' : World) : Prop :=
  Fr (fun _ => False) w w' (fun _ => False) ∧ match varsM s with
  | none => e = .returned (.tuple #[.slice none 0 0, .bool false])
  | some ns => ns.length ≤ s.size ∧ ∃ v, e = .returned (.tuple #[v, .bool true]) ∧ OwnI w' w.heap.size v (zs ns)
theorem post_none {s : ByteArray} {w w' : World} {e : Ending} (hv : varsM s = none) (he : e = .returned (.tuple #[.slice none 0 0, .bool false])) (hf : Fr (fun _ => False) w w' (fun _ => False)) : VsPost s w e w' := by
  unfold VsPost; rw [hv]; exact ⟨hf, he⟩
theorem post_some {s : ByteArray} {w w' : World} {e : Ending} {v : Value} {ns : List Nat} (hv : varsM s = some ns) (hl : ns.length ≤ s.size) (he : e = .returned (.tuple #[v, .bool true])) (ho : OwnI w' w.heap.size v (zs ns)) (hf : Fr (fun _ => False) w w' (fun _ => False)) : VsPost s w e w' := by
  unfold VsPost; rw [hv]; exact ⟨hf, hl, v, he, ho⟩

set_option maxHeartbeats 2000000 in
set_option maxRecDepth 20000 in
theorem varints_any (s : ByteArray) (hs : s.size ≤ 1000) (w : World) : Calls Tryz.prog 122 #[.string s] w (VsPost s w) := by
  go_enter Tryz.func122, Tryz.ntmps122
  go_wp2
  go_loopw [0, 4] (fun h v wr => VsRel s w h v wr) (fun h _ _ => strSz h)
  case atStart => exact ⟨s, [], s.size, rfl, Nat.le_refl _, Nat.le_refl _, World.ownsRow_nil _ _ _ _, by simp [varsM], Fr.refl _ w⟩
  case round =>
    obtain ⟨s', ns, f, rfl, hf, hl, ho, hv, hfr⟩ := hrel
    have hsz : w.heap.size ≤ wr.heap.size := hfr.size
    have HO := hide ho
    have HNE := hide ho.lt
    have HF := hide hfr
    have HLE := hide (show (zs ns).length ≤ 1000 by simp [zs]; omega)
    clear ho hfr
    by_cases h0 : 0 < s'.size
    · have hb := str_pos h0
      have hne : bs s' ≠ [] := fun e => absurd h0 (bs_nil.1 e)
      obtain ⟨f, rfl⟩ : ∃ g, f = g + 1 := ⟨f - 1, by omega⟩
      simp only [varsL, if_neg hne] at hv
      have hle := vGo_le 6 0 0 (bs s')
      rw [bs_len, Nat.zero_add] at hle
      have hc := varint_any' s' (by omega)
      unfold varM at hc
      have HV := hide hv
      have HC := hide hc
      clear hv hc
      generalize hx : vGo 6 0 0 (bs s') = x at *
      obtain ⟨n, k⟩ := x
      by_cases hk : k = 0
      · subst hk
        go_wp2_with (go_at_call 138; refine ((unhide HC) _).mono ?_; rintro _ _ ⟨rfl, rfl⟩)
        exact bodyPost_ret (v := .tuple #[.slice none 0 0, .bool false]) (by simp [results, Tryz.results122, go_sem]) rfl (post_none (by rw [← unhide HV]; rfl) rfl (unhide HF))
      · go_wp2_with first
          | (go_at_call 138; refine ((unhide HC) _).mono ?_; rintro _ _ ⟨rfl, rfl⟩)
          | (at_builtin; refine wpList_int rfl (.tmp 16) (.tmp 18) rfl rfl rfl (unhide HO) (unhide HLE) hsz ?_; intro v' w' o' g')
        have hse : (s'.extract k s'.size).size = s'.size - k := by simp [ByteArray.size_extract]
        go_roundw
        case rel =>
          refine ⟨_, ns ++ [n], f, rfl, by omega, by simp; omega, by simpa [zs] using o', ?_, ((unhide HF).alloc _).grown g' (fun j hj => ((unhide HNE) j hj).1)⟩
          rw [← unhide HV, if_neg hk, bs_extract]
          cases varsL f ((bs s').drop k) <;> simp
        case measure => simp only [strSz]; omega
    · cases str_zero h0
      have hvs : varsM s = some ns := by
        have e : bs ⟨#[]⟩ = [] := rfl
        rw [← hv, e]
        cases f <;> simp [varsL]
      have hns : ns.length ≤ s.size := by
        have : (⟨#[]⟩ : ByteArray).size = 0 := rfl
        omega
      clear hv hl
      go_wp2
      exact bodyPost_ret (v := .tuple #[u4, .bool true]) (by simp [results, Tryz.results122, go_sem]) rfl (post_some hvs hns rfl (unhide HO) (unhide HF))
end Go.Proofs.YtfmbebofllgmoaaGreatDoor
namespace Go.Proofs.YtfmbebofllgmoaaGreatDoor
open Go.RowKit
attribute [local go_sem ↓] Go.wp_at_zero Go.wp_at_succ

def risL : Int → List Int → Bool
  | _, [] => true
  | last, f :: t => if f ≤ last ∨ 8 ≤ f then false else risL f t
theorem risL_no {last f : Int} {t : List Int} (h : f ≤ last ∨ 8 ≤ f) : risL last (f :: t) = false := by simp only [risL]; rw [if_pos h]
theorem risL_go {last f : Int} {t : List Int} (h : ¬ (f ≤ last ∨ 8 ≤ f)) : risL last (f :: t) = risL f t := by simp only [risL]; rw [if_neg h]

set_option maxHeartbeats 2000000 in
set_option maxRecDepth 20000 in
theorem rising_any {w : World} {v : Value} {l : List Int} {P : Nat → Prop} (hl : IntsIn w v l P) (hn : l.length ≤ 1000) : Calls Tryz.prog 123 #[v] w fun e w' => e = .returned (.bool (risL (-1) l)) ∧ w' = w := by
  obtain ⟨a, c, rfl, hc⟩ := hl
  have HC := hide hc
  clear hc
  go_enter Tryz.func123, Tryz.ntmps123
  go_wp2
  go_loopw [3, 8] (fun u i wr => wr = w ∧ ∃ (k : Nat) (last : Int), k ≤ l.length ∧ i = .int .i64 k ∧ u = .int .i64 last ∧ risL last (l.drop k) = risL (-1) l) (fun _ i _ => l.length - (intOf i).toNat)
  case atStart => exact ⟨rfl, 0, -1, Nat.zero_le _, rfl, rfl, rfl⟩
  case round =>
    obtain ⟨rfl, k, last, hk, rfl, rfl, hv⟩ := hrel
    by_cases hlt : k < l.length
    · rcases unhide HC with hz | ⟨q, off, rfl, hq, hcell⟩
      · rw [hz] at hlt; simp at hlt
      have cz := hcell k hlt
      have hget : l.getD k 0 = l[k] := by simp [List.getD, hlt]
      rw [hget] at cz
      rw [List.drop_eq_getElem_cons hlt] at hv
      clear hcell hget
      generalize l[k] = z at *
      by_cases h1 : z ≤ last
      · rw [risL_no (.inl h1)] at hv
        have HV := hide hv
        clear hv
        go_wp2
        go_ret
        exact ⟨by rw [← unhide HV]; rfl, rfl⟩
      · by_cases h2 : 8 ≤ z
        · rw [risL_no (.inr h2)] at hv
          have HV := hide hv
          clear hv
          go_wp2
          go_ret
          exact ⟨by rw [← unhide HV]; rfl, rfl⟩
        · rw [risL_go (by omega)] at hv
          have HV := hide hv
          clear hv
          go_wp2
          go_roundw
          case rel => exact ⟨trivial, k + 1, z, hlt, by go_num, rfl, unhide HV⟩
          case measure => simp [intOf]; omega
    · rw [List.drop_eq_nil_of_le (by omega)] at hv
      have HV := hide hv
      clear hv
      go_wp2
      go_ret
      exact ⟨by rw [← unhide HV]; rfl, rfl⟩
end Go.Proofs.YtfmbebofllgmoaaGreatDoor
namespace Go.Proofs.YtfmbebofllgmoaaGreatDoor
open Go.RowKit
attribute [local go_sem ↓] Go.wp_at_zero Go.wp_at_succ

/-- What a kind and numbers tell: of, n, files. -/
def inpN (k : Nat) (ns : List Nat) : Option (Nat × Nat × List Nat) :=
  match k, ns with
  | 1, [a] => if a ≤ 1099511627776 then some (0, a, []) else none
  | 2, a :: t => if a = t.length ∧ risL (-1) (zs t) = true then some (0, 0, t) else none
  | 3, [a, b] => if 2 ≤ a ∧ a ≤ 8 ∧ b < a then some (a, b, []) else none
  | 4, [a, b] => if 1 ≤ a ∧ a ≤ 1000000 ∧ b < a then some (a, b, []) else none
  | 5, [a] => if 1 ≤ a ∧ a ≤ 5 then some (0, a, []) else none
  | _, _ => none
def inpM (b : ByteArray) : Option (Nat × Nat × List Nat) := (varsM (b.extract 1 b.size)).bind (inpN (byteAt b 0))
def InPost (b : ByteArray) (w : World) (e : Ending) (w' : World) : Prop :=
  Fr (fun _ => False) w w' (fun _ => False) ∧ match inpM b with
  | none => ∃ z0 z1 z2 a l c, e = .returned (.tuple #[.agg #[.int .i64 z0, .int .i64 z1, .int .i64 z2, .slice a l c], .bool false])
  | some (o, n, fs) => ∃ a l c, e = .returned (.tuple #[.agg #[.int .i64 (byteAt b 0), .int .i64 o, .int .i64 n, .slice a l c], .bool true]) ∧ OwnI w' w.heap.size (.slice a l c) (zs fs)
theorem in_none {b : ByteArray} {w w' : World} {z0 z1 z2 : Int} {a : Option Addr} {l c : Nat} (h : inpM b = none) (hf : Fr (fun _ => False) w w' (fun _ => False)) : InPost b w (.returned (.tuple #[.agg #[.int .i64 z0, .int .i64 z1, .int .i64 z2, .slice a l c], .bool false])) w' := by
  unfold InPost; rw [h]; exact ⟨hf, z0, z1, z2, a, l, c, rfl⟩
theorem in_some {b : ByteArray} {w w' : World} {o n : Nat} {fs : List Nat} {a : Option Addr} {l c : Nat} {k o' n' : Int} (h : inpM b = some (o, n, fs)) (hk : k = byteAt b 0) (ho : o' = o) (hn : n' = n) (hr : OwnI w' w.heap.size (.slice a l c) (zs fs)) (hf : Fr (fun _ => False) w w' (fun _ => False)) : InPost b w (.returned (.tuple #[.agg #[.int .i64 k, .int .i64 o', .int .i64 n', .slice a l c], .bool true])) w' := by
  unfold InPost; rw [h]; subst hk ho hn; exact ⟨hf, a, l, c, rfl, hr⟩
theorem vs_some {s : ByteArray} {w w' : World} {e : Ending} {ns : List Nat} (h : VsPost s w e w') (hv : varsM s = some ns) : Fr (fun _ => False) w w' (fun _ => False) ∧ ns.length ≤ s.size ∧ ∃ v, e = .returned (.tuple #[v, .bool true]) ∧ OwnI w' w.heap.size v (zs ns) := by
  unfold VsPost at h; rw [hv] at h; exact h
theorem vs_none {s : ByteArray} {w w' : World} {e : Ending} (h : VsPost s w e w') (hv : varsM s = none) : Fr (fun _ => False) w w' (fun _ => False) ∧ e = .returned (.tuple #[.slice none 0 0, .bool false]) := by
  unfold VsPost at h; rw [hv] at h; exact h

theorem res_fr {w w1 : World} {o : Obj} (f : Fr (fun _ => False) (w.alloc o) w1 (fun _ => False)) (a b c d : Value) : Fr (fun _ => False) w (((w1.setCell ⟨w.heap.size, 0, none⟩ a).setCell ⟨w.heap.size, 1, none⟩ b).setCell ⟨w.heap.size, 2, none⟩ c |>.setCell ⟨w.heap.size, 3, none⟩ d) (fun _ => False) :=
  ((((f.unalloc.setCell _ _ (.inr (Nat.le_refl _))).setCell _ _ (.inr (Nat.le_refl _))).setCell _ _ (.inr (Nat.le_refl _))).setCell _ _ (.inr (Nat.le_refl _)))
/-- The answer's block, as it was made. -/
def ResB (w w1 : World) : Prop := (w1.cell? ⟨w.heap.size, 0, none⟩ = some (.int .i64 0) ∧ w1.cell? ⟨w.heap.size, 1, none⟩ = some (.int .i64 0) ∧ w1.cell? ⟨w.heap.size, 2, none⟩ = some (.int .i64 0) ∧ w1.cell? ⟨w.heap.size, 3, none⟩ = some (.slice none 0 0)) ∧ ∀ j, w1.frozen? ⟨w.heap.size, j, none⟩ = false
theorem resB {w w1 : World} (f : Fr (fun _ => False) (w.alloc (.cells #[.int .i64 0, .int .i64 0, .int .i64 0, .slice none 0 0] 49)) w1 (fun _ => False)) : ResB w w1 := by
  have k := f.same w.heap.size (by simp) (fun h => h)
  refine ⟨⟨?_, ?_, ?_, ?_⟩, fun j => ?_⟩
  · exact (World.cell?_of_block (a := ⟨w.heap.size, 0, none⟩) k).trans (by simp [go_sem])
  · exact (World.cell?_of_block (a := ⟨w.heap.size, 1, none⟩) k).trans (by simp [go_sem])
  · exact (World.cell?_of_block (a := ⟨w.heap.size, 2, none⟩) k).trans (by simp [go_sem])
  · exact (World.cell?_of_block (a := ⟨w.heap.size, 3, none⟩) k).trans (by simp [go_sem])
  · exact (World.frozen?_of_block (a := ⟨w.heap.size, j, none⟩) k).trans (by simp [go_sem])

set_option maxHeartbeats 2000000 in
set_option maxRecDepth 20000 in
theorem input_bad (b : ByteArray) (h0 : 0 < b.size) (hs : b.size ≤ 40) (w : World) (hv : varsM (b.extract 1 b.size) = none) : Calls Tryz.prog 101 #[.string b] w (InPost b w) := by
  have hse : (b.extract 1 b.size).size = b.size - 1 := by simp [ByteArray.size_extract]
  have HM : Hid (inpM b = none) := hide (by unfold inpM; rw [hv]; rfl)
  have HV := hide hv
  have HC := hide fun w => varints_any (b.extract 1 b.size) (by omega) w
  clear hv
  go_enter Tryz.func101, Tryz.ntmps101
  go_wp2_with (go_at_call 122; refine (unhide HC _).mono ?_; rintro e w1 p1; obtain ⟨f1, rfl⟩ := vs_none p1 (unhide HV); have F1 := hide f1; obtain ⟨⟨r0, r1, r2, r3⟩, rz⟩ := resB f1; clear p1 f1)
  refine bodyPost_ret (v := .tuple #[.agg #[.int .i64 0, .int .i64 0, .int .i64 0, .slice none 0 0], .bool false]) (by simp [results, Tryz.results101, go_sem, r0, r1, r2, r3]) rfl (in_none (unhide HM) (res_fr (unhide F1) _ _ _ _))

set_option maxHeartbeats 2000000 in
set_option maxRecDepth 20000 in
theorem input_clock (b : ByteArray) (h0 : 0 < b.size) (hs : b.size ≤ 40) (w : World) (x : Nat) (hv : varsM (b.extract 1 b.size) = some [x]) (hk : byteAt b 0 = 1) : Calls Tryz.prog 101 #[.string b] w (InPost b w) := by
  have hse : (b.extract 1 b.size).size = b.size - 1 := by simp [ByteArray.size_extract]
  have HM : Hid (inpM b = if x ≤ 1099511627776 then some (0, x, []) else none) := hide (by unfold inpM; rw [hv, hk]; rfl)
  have hb0 : ((b[0]'h0).toNat : Int) = 1 := by rw [← byteAt_eq b 0 h0, hk]; rfl
  have HK := hide hk
  have HV := hide hv
  have HC := hide fun w => varints_any (b.extract 1 b.size) (by omega) w
  clear hv
  go_enter Tryz.func101, Tryz.ntmps101
  go_wp2_with (go_at_call 122; (refine (unhide HC _).mono ?_; rintro e w1 p1; obtain ⟨f1, hl1, v1, rfl, o1⟩ := vs_some p1 (unhide HV); have F1 := hide f1; obtain ⟨g, cap, cur, rfl, hg1, hg2, hg3, hg4, hg5, hg6⟩ := ownI_parts o1 (by simp [zs]); have cz := hg6 0 (by simp [zs]); simp only [zs, List.map_cons, List.map_nil, List.getD_cons_zero, List.length_cons, List.length_nil, Int.ofNat_eq_natCast] at cz hg3 ⊢; have hg7 : w.heap.size < g := (by simp at hg1; omega); have hne : w.heap.size ≠ g := (by omega); clear hg1 hg2 hg4 hg5 cur hl1 hk; obtain ⟨⟨r0, r1, r2, r3⟩, rz⟩ := resB f1; clear p1 f1 o1 hg6))
  by_cases hx : (x : Int) ≤ 1099511627776
  · go_region
    go_wp2
    refine bodyPost_ret (v := .tuple #[.agg #[.int .i64 1, .int .i64 0, .int .i64 x, .slice none 0 0], .bool true]) (by simp [results, Tryz.results101, go_sem, r0, r1, r2, r3]) rfl (in_some (o := 0) (n := x) (fs := []) (by rw [unhide HM, if_pos (by omega)]) (by rw [unhide HK]; rfl) rfl rfl (World.ownsRow_nil _ _ _ _) (res_fr (unhide F1) _ _ _ _).drew)
  · go_region
    go_wp2
    exact bodyPost_ret (v := .tuple #[.agg #[.int .i64 1, .int .i64 0, .int .i64 x, .slice none 0 0], .bool false]) (by simp [results, Tryz.results101, go_sem, r0, r1, r2, r3]) rfl (in_none (by rw [unhide HM, if_neg (by omega)]) (res_fr (unhide F1) _ _ _ _).drew)

set_option maxHeartbeats 2000000 in
set_option maxRecDepth 20000 in
theorem input_end (b : ByteArray) (h0 : 0 < b.size) (hs : b.size ≤ 40) (w : World) (x : Nat) (hv : varsM (b.extract 1 b.size) = some [x]) (hk : byteAt b 0 = 5) : Calls Tryz.prog 101 #[.string b] w (InPost b w) := by
  have hse : (b.extract 1 b.size).size = b.size - 1 := by simp [ByteArray.size_extract]
  have HM : Hid (inpM b = if 1 ≤ x ∧ x ≤ 5 then some (0, x, []) else none) := hide (by unfold inpM; rw [hv, hk]; rfl)
  have hb0 : ((b[0]'h0).toNat : Int) = 5 := by rw [← byteAt_eq b 0 h0, hk]; rfl
  have HK := hide hk
  have HV := hide hv
  have HC := hide fun w => varints_any (b.extract 1 b.size) (by omega) w
  clear hv
  go_enter Tryz.func101, Tryz.ntmps101
  go_wp2_with (go_at_call 122; (refine (unhide HC _).mono ?_; rintro e w1 p1; obtain ⟨f1, hl1, v1, rfl, o1⟩ := vs_some p1 (unhide HV); have F1 := hide f1; obtain ⟨g, cap, cur, rfl, hg1, hg2, hg3, hg4, hg5, hg6⟩ := ownI_parts o1 (by simp [zs]); have cz := hg6 0 (by simp [zs]); simp only [zs, List.map_cons, List.map_nil, List.getD_cons_zero, List.length_cons, List.length_nil, Int.ofNat_eq_natCast] at cz hg3 ⊢; have hg7 : w.heap.size < g := (by simp at hg1; omega); have hne : w.heap.size ≠ g := (by omega); clear hg1 hg2 hg4 hg5 cur hl1 hk; obtain ⟨⟨r0, r1, r2, r3⟩, rz⟩ := resB f1; clear p1 f1 o1 hg6))
  by_cases hx : 1 ≤ x ∧ x ≤ 5
  · have hw : (decide ((1 : Int) ≤ x) && decide ((x : Int) ≤ 5)) = true := by simp; omega
    have HW := hide hw
    clear hw
    go_region_with (go_at_call 124; refine (within_any _ _ _ _).mono ?_; rintro _ _ ⟨rfl, rfl⟩; rw [unhide HW])
    all_goals
      go_wp2
      exact bodyPost_ret (v := .tuple #[.agg #[.int .i64 5, .int .i64 0, .int .i64 x, .slice none 0 0], .bool true]) (by simp [results, Tryz.results101, go_sem, Act.put, r0, r1, r2, r3]) rfl (in_some (o := 0) (n := x) (fs := []) (by rw [unhide HM, if_pos hx]) (by rw [unhide HK]; rfl) rfl rfl (World.ownsRow_nil _ _ _ _) (res_fr (unhide F1) _ _ _ _).drew)
  · have hw : (decide ((1 : Int) ≤ x) && decide ((x : Int) ≤ 5)) = false := by simp; omega
    have HW := hide hw
    clear hw
    go_region_with (go_at_call 124; refine (within_any _ _ _ _).mono ?_; rintro _ _ ⟨rfl, rfl⟩; rw [unhide HW])
    all_goals
      go_wp2
      exact bodyPost_ret (v := .tuple #[.agg #[.int .i64 5, .int .i64 0, .int .i64 x, .slice none 0 0], .bool false]) (by simp [results, Tryz.results101, go_sem, Act.put, r0, r1, r2, r3]) rfl (in_none (by rw [unhide HM, if_neg hx]) (res_fr (unhide F1) _ _ _ _).drew)
end Go.Proofs.YtfmbebofllgmoaaGreatDoor
namespace Go.Proofs.YtfmbebofllgmoaaGreatDoor
open Go.RowKit

theorem bs_append (a b : ByteArray) : bs (a ++ b) = bs a ++ bs b := by simp [bs]
theorem bs_push (a : ByteArray) (x : UInt8) : bs (a.push x) = bs a ++ [x.toNat] := by simp [bs]
theorem bs_inj {a b : ByteArray} (h : bs a = bs b) : a = b := by
  obtain ⟨⟨a⟩⟩ := a
  obtain ⟨⟨b⟩⟩ := b
  have h' : a.map UInt8.toNat = b.map UInt8.toNat := h
  have : a = b := (List.map_inj_right (fun x y hxy => UInt8.toNat_inj.1 hxy)).1 h'
  rw [this]
theorem bs_lt (a : ByteArray) : ∀ x, x ∈ bs a → x < 256 := by
  intro x hx
  obtain ⟨u, _, rfl⟩ := List.mem_map.1 hx
  exact UInt8.toNat_lt u
theorem bs_empty : bs ByteArray.empty = [] := rfl
theorem bs_sub (s : ByteArray) (i j : Nat) : bs (s.extract i j) = ((bs s).take j).drop i := by
  simp only [bs, ByteArray.data_extract, Array.toList_extract, List.map_drop, List.map_take, List.extract_eq_drop_take']
theorem byteAt_bs (s : ByteArray) (i : Nat) : byteAt s i = (bs s).getD i 0 := by
  simp only [byteAt, bs, List.getD_eq_getElem?_getD, List.getElem?_map]
  cases s.data.toList[i]? <;> rfl

/-- The bytes of a varint, as numbers. -/
def vb (n : Nat) : List Nat := bs (varS n)
theorem vb_small (n : Nat) (h : n < 128) : vb n = [n] := by
  unfold vb; rw [varS_eq, if_pos h, bs_push, bs_empty, List.nil_append, UInt8.toNat_ofNat']
  congr 1; omega
theorem vb_great (n : Nat) (h : ¬ n < 128) : vb n = (n % 128 + 128) :: vb (n / 128) := by
  unfold vb; rw [varS_eq, if_neg h, bs_append, bs_push, bs_empty, List.nil_append, UInt8.toNat_ofNat', List.singleton_append]
  congr 1; omega
theorem vb_pos (n : Nat) : 0 < (vb n).length := by
  by_cases h : n < 128
  · rw [vb_small n h]; simp
  · rw [vb_great n h]; simp

theorem vGo_vb : ∀ (f k acc n : Nat) (t : List Nat), n < 128 ^ f → 0 < f → (n ≠ 0 ∨ k = 0) → vGo f k acc (vb n ++ t) = (acc + n * 128 ^ k, k + (vb n).length)
  | 0, _, _, _, _, _, h, _ => absurd h (Nat.lt_irrefl 0)
  | f + 1, k, acc, n, t, hn, _, h0 => by
    by_cases h : n < 128
    · rw [vb_small n h]
      rw [List.singleton_append, vGo_done f k acc n t h h0]
      rfl
    · rw [vb_great n h, List.cons_append, vGo_more _ _ _ _ _ (by omega)]
      have h1 : n / 128 < 128 ^ f := by rw [Nat.div_lt_iff_lt_mul (by omega)]; rwa [Nat.pow_succ] at hn
      have hf : 0 < f := by
        cases f with
        | zero => simp at h1; omega
        | succ f => omega
      rw [vGo_vb f (k + 1) _ (n / 128) t h1 hf (.inl (by omega))]
      have e : (n % 128 + 128) % 128 = n % 128 := by omega
      rw [e, List.length_cons]
      have e2 : acc + n % 128 * 128 ^ k + n / 128 * 128 ^ (k + 1) = acc + n * 128 ^ k := by
        rw [Nat.pow_succ, Nat.add_assoc, Nat.mul_comm (128 ^ k) 128, ← Nat.mul_assoc, ← Nat.add_mul]
        congr 2; omega
      rw [e2]
      congr 1; omega

theorem vGo_inv : ∀ (f k acc : Nat) (l : List Nat), (∀ x, x ∈ l → x < 256) → (vGo f k acc l).2 ≠ 0 → ∃ n t, l = vb n ++ t ∧ vGo f k acc l = (acc + n * 128 ^ k, k + (vb n).length) ∧ n < 128 ^ f ∧ (n ≠ 0 ∨ k = 0)
  | 0, _, _, _, _, h => absurd rfl h
  | _ + 1, _, _, [], _, h => absurd rfl h
  | f + 1, k, acc, x :: t, hl, h => by
    by_cases hx : 128 ≤ x
    · rw [vGo_more _ _ _ _ _ hx] at h ⊢
      obtain ⟨n, t', e, hv, hn, h0⟩ := vGo_inv f (k + 1) _ t (fun y hy => hl y (List.mem_cons_of_mem _ hy)) h
      have h256 := hl x (List.mem_cons_self ..)
      have hn0 : n ≠ 0 := by rcases h0 with h0 | h0
                             · exact h0
                             · omega
      have hg : ¬ (x % 128 + n * 128) < 128 := by omega
      have hvb : vb (x % 128 + n * 128) = x :: vb n := by
        rw [vb_great _ hg]
        congr 1
        · omega
        · congr 1; omega
      refine ⟨x % 128 + n * 128, t', ?_, ?_, ?_, .inl (by omega)⟩
      · rw [hvb, e]; rfl
      · rw [hv, hvb, List.length_cons]
        have e2 : acc + x % 128 * 128 ^ k + n * 128 ^ (k + 1) = acc + (x % 128 + n * 128) * 128 ^ k := by
          rw [Nat.pow_succ, Nat.add_assoc, Nat.mul_comm (128 ^ k) 128, ← Nat.mul_assoc, ← Nat.add_mul]
        rw [e2]
        congr 1; omega
      · rw [Nat.pow_succ]; omega
    · by_cases h0 : x = 0 ∧ 0 < k
      · rw [h0.1, vGo_zero _ _ _ _ h0.2] at h; exact absurd rfl h
      · have hx' : x < 128 := by omega
        rw [vGo_done f k acc x t hx' (by omega)]
        refine ⟨x, t, by rw [vb_small x hx']; rfl, by rw [vb_small x hx']; rfl, ?_, by omega⟩
        rw [Nat.pow_succ]
        have := Nat.one_le_pow f 128 (by omega)
        omega

/-- The bytes of numbers, one varint behind the other. -/
def vbs (ns : List Nat) : List Nat := ns.flatMap vb
theorem vbs_cons (n : Nat) (r : List Nat) : vbs (n :: r) = vb n ++ vbs r := rfl
theorem vb_ne (n : Nat) (t : List Nat) : vb n ++ t ≠ [] := by
  intro h; have := vb_pos n; have h2 := congrArg List.length h; rw [List.length_append, List.length_nil] at h2; omega
/-- A row of varints is read, and nothing else. -/
theorem varsL_iff : ∀ (f : Nat) (l : List Nat) (ns : List Nat), l.length ≤ f → (∀ x, x ∈ l → x < 256) → (varsL f l = some ns ↔ l = vbs ns ∧ ∀ n, n ∈ ns → n < 128 ^ 6)
  | 0, l, ns, hf, _ => by
    have : l = [] := List.eq_nil_of_length_eq_zero (by omega)
    subst this
    simp only [varsL, if_true]
    constructor
    · intro h; injection h with h; subst h; exact ⟨rfl, fun _ h => absurd h (by simp)⟩
    · rintro ⟨h, _⟩
      cases ns with
      | nil => rfl
      | cons n r => exact absurd h.symm (vb_ne n _)
  | f + 1, l, ns, hf, hb => by
    by_cases hl : l = []
    · subst hl
      simp only [varsL, if_true]
      constructor
      · intro h; injection h with h; subst h; exact ⟨rfl, fun _ h => absurd h (by simp)⟩
      · rintro ⟨h, _⟩
        cases ns with
        | nil => rfl
        | cons n r => exact absurd h.symm (vb_ne n _)
    · simp only [varsL, if_neg hl]
      by_cases h0 : (vGo 6 0 0 l).2 = 0
      · rw [if_pos h0]
        constructor
        · intro h; cases h
        · rintro ⟨h, hn⟩
          cases ns with
          | nil => exact absurd h hl
          | cons n r =>
            rw [h, vbs_cons, vGo_vb 6 0 0 n _ (hn n (List.mem_cons_self ..)) (by omega) (.inr rfl)] at h0
            have := vb_pos n
            exact absurd h0 (by show 0 + (vb n).length ≠ 0; omega)
      · rw [if_neg h0]
        obtain ⟨n, t, e, hv, hn, _⟩ := vGo_inv 6 0 0 l hb h0
        have e1 : (vGo 6 0 0 l).1 = n := by rw [hv]; simp
        have e2 : (vGo 6 0 0 l).2 = (vb n).length := by rw [hv]; simp
        have e3 : l.drop (vb n).length = t := by rw [e, List.drop_left]
        rw [e1, e2, e3]
        have ht : t.length ≤ f := by have := vb_pos n; rw [e, List.length_append] at hf; omega
        have hbt : ∀ x, x ∈ t → x < 256 := fun x hx => hb x (by rw [e]; exact List.mem_append_right _ hx)
        constructor
        · intro h
          obtain ⟨r, hr, rfl⟩ := Option.map_eq_some_iff.1 h
          obtain ⟨h1, h2⟩ := (varsL_iff f t r ht hbt).1 hr
          refine ⟨by rw [vbs_cons, ← h1, e], ?_⟩
          intro m hm
          rcases List.mem_cons.1 hm with rfl | hm
          · exact hn
          · exact h2 m hm
        · rintro ⟨h, hns⟩
          cases ns with
          | nil => exact absurd h hl
          | cons m r =>
            rw [vbs_cons] at h
            have hv2 := vGo_vb 6 0 0 m (vbs r) (hns m (List.mem_cons_self ..)) (by omega) (.inr rfl)
            rw [← h, hv] at hv2
            injection hv2 with g1 g2
            have hnm : n = m := by simp at g1; exact g1
            subst hnm
            have htr : t = vbs r := by
              rw [e] at h
              exact List.append_cancel_left h
            rw [(varsL_iff f t r ht hbt).2 ⟨htr, fun x hx => hns x (List.mem_cons_of_mem _ hx)⟩]
            rfl

/-- An input of a log: kind, of, n, files. -/
abbrev Inp := Nat × Nat × Nat × List Nat
/-- What a record may tell. -/
def Fit (x : Inp) : Prop :=
  (x.1 = 1 ∧ x.2.1 = 0 ∧ x.2.2.1 ≤ 1099511627776 ∧ x.2.2.2 = []) ∨ (x.1 = 2 ∧ x.2.1 = 0 ∧ x.2.2.1 = 0 ∧ risL (-1) (zs x.2.2.2) = true) ∨
  (x.1 = 3 ∧ 2 ≤ x.2.1 ∧ x.2.1 ≤ 8 ∧ x.2.2.1 < x.2.1 ∧ x.2.2.2 = []) ∨ (x.1 = 4 ∧ 1 ≤ x.2.1 ∧ x.2.1 ≤ 1000000 ∧ x.2.2.1 < x.2.1 ∧ x.2.2.2 = []) ∨ (x.1 = 5 ∧ x.2.1 = 0 ∧ 1 ≤ x.2.2.1 ∧ x.2.2.1 ≤ 5 ∧ x.2.2.2 = [])
/-- Its numbers. -/
def nums (x : Inp) : List Nat := if x.1 = 2 then x.2.2.2.length :: x.2.2.2 else if x.1 = 3 ∨ x.1 = 4 then [x.2.1, x.2.2.1] else [x.2.2.1]
theorem inpN_iff (k : Nat) (ns : List Nat) (o n : Nat) (fs : List Nat) : inpN k ns = some (o, n, fs) ↔ Fit (k, o, n, fs) ∧ ns = nums (k, o, n, fs) := by
  unfold inpN
  split
  · rename_i a
    by_cases h : a ≤ 1099511627776
    · rw [if_pos h]; simp [Fit, nums]
      constructor
      · rintro ⟨rfl, rfl, rfl⟩; exact ⟨⟨rfl, h, rfl⟩, rfl⟩
      · rintro ⟨⟨rfl, _, rfl⟩, rfl⟩; exact ⟨rfl, rfl, rfl⟩
    · rw [if_neg h]; simp [Fit, nums]
      rintro _ h1 _ rfl; exact h h1
  · rename_i a t
    by_cases h : a = t.length ∧ risL (-1) (zs t) = true
    · rw [if_pos h]; simp [Fit, nums]
      constructor
      · rintro ⟨rfl, rfl, rfl⟩; exact ⟨⟨rfl, rfl, h.2⟩, h.1, rfl⟩
      · rintro ⟨⟨rfl, rfl, _⟩, _, rfl⟩; exact ⟨rfl, rfl, rfl⟩
    · rw [if_neg h]; simp [Fit, nums]
      rintro _ _ h1 h2 rfl; exact h ⟨h2, h1⟩
  · rename_i a b
    by_cases h : 2 ≤ a ∧ a ≤ 8 ∧ b < a
    · rw [if_pos h]; simp [Fit, nums]
      constructor
      · rintro ⟨rfl, rfl, rfl⟩; exact ⟨⟨h.1, h.2.1, h.2.2, rfl⟩, rfl, rfl⟩
      · rintro ⟨⟨_, _, _, rfl⟩, rfl, rfl⟩; exact ⟨rfl, rfl, rfl⟩
    · rw [if_neg h]; simp [Fit, nums]
      rintro h1 h2 h3 _ rfl rfl; exact h ⟨h1, h2, h3⟩
  · rename_i a b
    by_cases h : 1 ≤ a ∧ a ≤ 1000000 ∧ b < a
    · rw [if_pos h]; simp [Fit, nums]
      constructor
      · rintro ⟨rfl, rfl, rfl⟩; exact ⟨⟨h.1, h.2.1, h.2.2, rfl⟩, rfl, rfl⟩
      · rintro ⟨⟨_, _, _, rfl⟩, rfl, rfl⟩; exact ⟨rfl, rfl, rfl⟩
    · rw [if_neg h]; simp [Fit, nums]
      rintro h1 h2 h3 _ rfl rfl; exact h ⟨h1, h2, h3⟩
  · rename_i a
    by_cases h : 1 ≤ a ∧ a ≤ 5
    · rw [if_pos h]; simp [Fit, nums]
      constructor
      · rintro ⟨rfl, rfl, rfl⟩; exact ⟨⟨rfl, h.1, h.2, rfl⟩, rfl⟩
      · rintro ⟨⟨rfl, _, _, rfl⟩, rfl⟩; exact ⟨rfl, rfl, rfl⟩
    · rw [if_neg h]; simp [Fit, nums]
      rintro _ h1 h2 _ rfl; exact h ⟨h1, h2⟩
  · rename_i h1 h2 h3 h4 h5
    constructor
    · intro h; cases h
    · rintro ⟨hf, hn⟩
      rcases hf with ⟨e, _⟩ | ⟨e, _⟩ | ⟨e, _⟩ | ⟨e, _⟩ | ⟨e, _⟩ <;> simp only at e <;> subst e <;> simp [nums] at hn <;> subst hn
      · exact absurd rfl (h1 _ rfl)
      · exact absurd rfl (h2 _ _ rfl)
      · exact absurd rfl (h3 _ _ rfl)
      · exact absurd rfl (h4 _ _ rfl)
      · exact absurd rfl (h5 _ rfl)
end Go.Proofs.YtfmbebofllgmoaaGreatDoor
namespace Go.Proofs.YtfmbebofllgmoaaGreatDoor
open Go.RowKit

/-- The body of an input, as numbers. -/
def bodyL (x : Inp) : List Nat := x.1 :: vbs (nums x)
theorem risL_len : ∀ (fs : List Nat) (last : Int), -1 ≤ last → last < 8 → risL last (zs fs) = true → (fs.length : Int) + last ≤ 7 ∧ ∀ f, f ∈ fs → f < 8
  | [], last, _, h8, _ => ⟨by simp; omega, fun _ h => absurd h (by simp)⟩
  | f :: t, last, h1, h8, h => by
    have e : zs (f :: t) = (f : Int) :: zs t := rfl
    rw [e] at h
    simp only [risL] at h
    by_cases hc : (f : Int) ≤ last ∨ 8 ≤ (f : Int)
    · rw [if_pos hc] at h; cases h
    · rw [if_neg hc] at h
      obtain ⟨g1, g2⟩ := risL_len t f (by omega) (by omega) h
      refine ⟨by simp only [List.length_cons]; omega, ?_⟩
      intro x hx
      rcases List.mem_cons.1 hx with rfl | hx
      · omega
      · exact g2 x hx
theorem Fit.nums_lt {x : Inp} (h : Fit x) : ∀ n, n ∈ nums x → n < 128 ^ 6 := by
  obtain ⟨k, o, n, fs⟩ := x
  rcases h with ⟨e, h1, h2, h3⟩ | ⟨e, h1, h2, h3⟩ | ⟨e, h1, h2, h3, h4⟩ | ⟨e, h1, h2, h3, h4⟩ | ⟨e, h1, h2, h3, h4⟩ <;> simp only at e h1 h2 h3 <;> subst e
  · intro m hm; simp [nums] at hm; omega
  · obtain ⟨g1, g2⟩ := risL_len fs (-1) (by omega) (by omega) h3
    intro m hm
    simp [nums] at hm
    rcases hm with rfl | hm
    · omega
    · have := g2 m hm; omega
  · intro m hm; simp [nums] at hm; omega
  · intro m hm; simp [nums] at hm; omega
  · intro m hm; simp [nums] at hm; omega
/-- What the bytes of a body tell. -/
def ipL (l : List Nat) : Option Inp := match l with
  | [] => none
  | k :: t => (varsL t.length t).bind fun ns => (inpN k ns).map fun r => (k, r)
theorem ipL_iff (l : List Nat) (hb : ∀ x, x ∈ l → x < 256) (x : Inp) : ipL l = some x ↔ Fit x ∧ l = bodyL x := by
  obtain ⟨k, o, n, fs⟩ := x
  cases l with
  | nil => simp [ipL, bodyL]
  | cons c t =>
    have hbt : ∀ x, x ∈ t → x < 256 := fun x hx => hb x (List.mem_cons_of_mem _ hx)
    constructor
    · intro h
      simp only [ipL] at h
      obtain ⟨ns, h1, h2⟩ := Option.bind_eq_some_iff.1 h
      obtain ⟨⟨o', n', fs'⟩, h3, h4⟩ := Option.map_eq_some_iff.1 h2
      injection h4 with e1 e2
      injection e2 with e2 e3
      injection e3 with e3 e4
      subst e1 e2 e3 e4
      obtain ⟨g1, g2⟩ := (inpN_iff c ns o' n' fs').1 h3
      obtain ⟨g3, _⟩ := (varsL_iff t.length t ns (Nat.le_refl _) hbt).1 h1
      exact ⟨g1, by unfold bodyL; rw [← g2, ← g3]⟩
    · rintro ⟨hf, h⟩
      unfold bodyL at h
      injection h with e1 e2
      simp only at e1
      subst e1
      have h1 := (varsL_iff t.length t (nums (c, o, n, fs)) (Nat.le_refl _) hbt).2 ⟨e2, hf.nums_lt⟩
      have h3 := (inpN_iff c (nums (c, o, n, fs)) o n fs).2 ⟨hf, rfl⟩
      simp only [ipL, h1, Option.bind_some, h3, Option.map_some]
theorem ipL_bs (b : ByteArray) (h0 : 0 < b.size) : ipL (bs b) = (inpM b).map fun r => (byteAt b 0, r) := by
  have hl := bs_len b
  have he := bs_extract b 1
  have hz : (b.extract 1 b.size).size = b.size - 1 := by simp [ByteArray.size_extract]
  cases h : bs b with
  | nil => rw [h] at hl; simp at hl; omega
  | cons k t =>
    have hk : byteAt b 0 = k := by rw [byteAt_bs, h]; rfl
    have ht : bs (b.extract 1 b.size) = t := by rw [he, h]; rfl
    have hn : (b.extract 1 b.size).size = t.length := by rw [← bs_len, ht]
    unfold inpM varsM
    rw [hk, ht, hn]
    simp only [ipL]
    cases varsL t.length t with
    | none => rfl
    | some ns => rfl

/-! ### The sum -/
def smB (l : List Nat) : ByteArray := ⟨(l.map UInt8.ofNat).toArray⟩
theorem smB_bs (b : ByteArray) : smB (bs b) = b := by
  obtain ⟨⟨l⟩⟩ := b
  simp only [smB, bs, List.map_map]
  have : (UInt8.ofNat ∘ UInt8.toNat) = id := by funext x; simp
  rw [this, List.map_id]
/-- The four bytes of the sum, as numbers. -/
def sm (l : List Nat) : List Nat := bs (sumS (smB l))
theorem sm_bs (b : ByteArray) : sm (bs b) = bs (sumS b) := by unfold sm; rw [smB_bs]
end Go.Proofs.YtfmbebofllgmoaaGreatDoor
namespace Go.Proofs.YtfmbebofllgmoaaGreatDoor
open Go.RowKit

/-- What an element's type says. -/
structure Elem (t e size bytes : Nat) : Prop where
  u : Tryz.prog.underlying t = some (.slice e)
  i : ∃ i z, Tryz.prog.info? e = some i ∧ i.zero = some z ∧ i.size = size ∧ i.bytes = bytes ∧ z.cells.size = size
theorem elem_of (t e size bytes : Nat) (z : Value) (hu : Tryz.prog.underlying t = some (.slice e)) (h : (Tryz.prog.info? e).map (fun i => (i.zero, i.size, i.bytes)) = some (some z, size, bytes)) (hz : z.cells.size = size) : Elem t e size bytes := by
  obtain ⟨i, hi, hb⟩ := Option.map_eq_some_iff.1 h
  injection hb with h1 h2
  injection h2 with h2 h3
  exact ⟨hu, i, z, hi, h1, h2, h3, hz⟩
theorem elemI : Elem 26 3 1 8 := elem_of _ _ _ _ (.int .i64 0) Tryz.underlying26 (by kernel_rfl) rfl
theorem grow_fr {w w' : World} {v : Value} {g n cap : Nat} (h2 : w.grownBy w' v.ownBlock) (h3 : v.ownBlock = some g ∨ g = w.heap.size) : Fr (own v) w w' (own (.slice (some ⟨g, 0, none⟩) n cap)) := by
  refine ⟨h2.os, h2.tape, h2.output, h2.size, fun k hk hn => h2.block k hk (fun e => hn e.symm), ?_⟩
  intro k hk e
  simp only [own, Value.ownBlock, Option.some.injEq] at e
  subst e
  rcases h3 with h3 | h3
  · exact h3
  · omega

theorem wpList_grow {ops : Array Oper} {rest : List Oper} {o : Oper} {a : Act} {Q : Exit → Act → World → Prop} {w : World} {B t e size bytes : Nat} (E : Elem t e size bytes) (hs0 : 0 < size) (hs1 : bytes ≤ 100) {v : Value} {n m : Nat} {xs news : List Value} (hgd : o.guard = none) (sv xv : Operand)
    (ho : o.op = .call { callee := .builtin .append, args := #[sv, xv], argTypes := #[t, t] }) {ad : Addr} {cap : Nat} (hs : a.eval sv = v) (hx : a.eval xv = .slice (some ad) m cap) (hrow : w.ownsRow B e size v n xs) (hl : news.length = m * size)
    (hc : ∀ j u, news[j]? = some u → w.cell? (ad.add j) = some u) (h1 : ∀ u ∈ news, u.oneCell' = true) (hm : 0 < m) (hn : n + m ≤ 1000000) (hB : B ≤ w.heap.size)
    (h : ∀ v' w', w'.ownsRow B e size v' (n + m) (xs ++ news) → Fr (own v) w w' (own v') → (∃ a c, v' = .slice a (n + m) c) → wpList Tryz.prog ops Q rest (a.put o.dst v') w') : wpList Tryz.prog ops Q (o :: rest) a w := by
  obtain ⟨i, z, hi, hz, hsz, hby, hzc⟩ := E.i
  have hmx : n + m ≤ maxLen := by simp only [maxLen]; omega
  have hbb : (n + m) * bytes ≤ 140737488355328 := Nat.le_trans (Nat.mul_le_mul hn hs1) (by omega)
  refine wpList_append_lies _ hgd sv xv t ho B e i z size bytes E.u hi hz hsz hby hzc hs0 v n xs hs hrow ad m cap news hx hl hc h1 hm hmx hbb hB w.heap.size rfl ?_
  intro g cp w' h1 h2 h3 h4
  exact h _ w' h1 (grow_fr h2 h3) ⟨_, _, rfl⟩
theorem step_grow {ops : Array Oper} {o : Oper} {a : Act} {K : Act → World → Prop} {Q : Exit → Act → World → Prop} {E' : Prop} {w : World} {B t e size bytes : Nat} (E : Elem t e size bytes) (hs0 : 0 < size) (hs1 : bytes ≤ 100) {v : Value} {n m : Nat} {xs news : List Value} (hgd : o.guard = none) (sv xv : Operand)
    (ho : o.op = .call { callee := .builtin .append, args := #[sv, xv], argTypes := #[t, t] }) {ad : Addr} {cap : Nat} (hs : a.eval sv = v) (hx : a.eval xv = .slice (some ad) m cap) (hrow : w.ownsRow B e size v n xs) (hl : news.length = m * size)
    (hc : ∀ j u, news[j]? = some u → w.cell? (ad.add j) = some u) (h1 : ∀ u ∈ news, u.oneCell' = true) (hm : 0 < m) (hn : n + m ≤ 1000000) (hB : B ≤ w.heap.size)
    (h : ∀ v' w', w'.ownsRow B e size v' (n + m) (xs ++ news) → Fr (own v) w w' (own v') → (∃ a c, v' = .slice a (n + m) c) → K (a.put o.dst v') w') : if Region.wanted o (yielded ops a.tmps) = true then Oper.wp Tryz.prog o a w K Q else E' := by
  obtain ⟨i, z, hi, hz, hsz, hby, hzc⟩ := E.i
  have hmx : n + m ≤ maxLen := by simp only [maxLen]; omega
  have hbb : (n + m) * bytes ≤ 140737488355328 := Nat.le_trans (Nat.mul_le_mul hn hs1) (by omega)
  refine step_append_lies _ hgd sv xv t ho B e i z size bytes E.u hi hz hsz hby hzc hs0 v n xs hs hrow ad m cap news hx hl hc h1 hm hmx hbb hB w.heap.size rfl ?_
  intro g cp w' h1 h2 h3 h4
  exact h _ w' h1 (grow_fr h2 h3) ⟨_, _, rfl⟩
end Go.Proofs.YtfmbebofllgmoaaGreatDoor
namespace Go.Proofs.YtfmbebofllgmoaaGreatDoor
open Go.RowKit
attribute [local go_sem ↓] Go.wp_at_zero Go.wp_at_succ

/-- A number read by the document: places left, place, number so far, bytes left. -/
def nGo : Nat → Nat → Nat → List Nat → Nat × Nat
  | 0, _, _, _ => (0, 0)
  | _ + 1, _, _, [] => (0, 0)
  | f + 1, k, n, x :: t => if 128 ≤ x then nGo f (k + 1) (n + x % 128 * 128 ^ k) t else (n + x * 128 ^ k, k + 1)
theorem nGo_nil (f k n : Nat) : nGo f k n [] = (0, 0) := by cases f <;> rfl
theorem nGo_more (f k n x : Nat) (t : List Nat) (h : 128 ≤ x) : nGo (f + 1) k n (x :: t) = nGo f (k + 1) (n + x % 128 * 128 ^ k) t := by
  simp only [nGo]; rw [if_pos h]
theorem nGo_done (f k n x : Nat) (t : List Nat) (h : x < 128) : nGo (f + 1) k n (x :: t) = (n + x * 128 ^ k, k + 1) := by
  simp only [nGo]; rw [if_neg (by omega)]
theorem nGo_vb : ∀ (f k acc n : Nat) (t : List Nat), n < 128 ^ f → 0 < f → nGo f k acc (vb n ++ t) = (acc + n * 128 ^ k, k + (vb n).length)
  | 0, _, _, _, _, _, h => absurd h (Nat.lt_irrefl 0)
  | f + 1, k, acc, n, t, hn, _ => by
    by_cases h : n < 128
    · rw [vb_small n h]
      rw [List.singleton_append, nGo_done f k acc n t h]
      rfl
    · rw [vb_great n h, List.cons_append, nGo_more _ _ _ _ _ (by omega)]
      have h1 : n / 128 < 128 ^ f := by rw [Nat.div_lt_iff_lt_mul (by omega)]; rwa [Nat.pow_succ] at hn
      have hf : 0 < f := by
        cases f with
        | zero => simp at h1; omega
        | succ f => omega
      rw [nGo_vb f (k + 1) _ (n / 128) t h1 hf]
      have e : (n % 128 + 128) % 128 = n % 128 := by omega
      rw [e, List.length_cons]
      have e2 : acc + n % 128 * 128 ^ k + n / 128 * 128 ^ (k + 1) = acc + n * 128 ^ k := by
        rw [Nat.pow_succ, Nat.add_assoc, Nat.mul_comm (128 ^ k) 128, ← Nat.mul_assoc, ← Nat.add_mul]
        congr 2; omega
      rw [e2]
      congr 1; omega
theorem nGo_le : ∀ (f k n : Nat) (l : List Nat), (nGo f k n l).2 ≤ k + l.length ∧ ((nGo f k n l).2 = 0 ∨ k < (nGo f k n l).2)
  | 0, _, _, _ => ⟨Nat.zero_le _, .inl rfl⟩
  | _ + 1, _, _, [] => ⟨Nat.zero_le _, .inl rfl⟩
  | f + 1, k, n, x :: t => by
    by_cases h : 128 ≤ x
    · rw [nGo_more _ _ _ _ _ h]
      have := nGo_le f (k + 1) (n + x % 128 * 128 ^ k) t
      rw [List.length_cons]
      omega
    · rw [nGo_done _ _ _ _ _ (by omega)]
      simp
/-- The number at the head of a text. -/
def numD (s : ByteArray) : Nat × Nat := nGo 7 0 0 (bs s)
def NRel (s : ByteArray) (w : World) (h u i : Value) (wr : World) : Prop :=
  wr = w ∧ ∃ f k n : Nat, k ≤ s.size ∧ f + k = 7 ∧ h = .int .i64 n ∧ u = .int .i64 ((128 ^ k : Nat) : Int) ∧ i = .int .i64 k ∧ n < 128 ^ k ∧ nGo f k n ((bs s).drop k) = numD s

set_option maxHeartbeats 4000000 in
set_option maxRecDepth 20000 in
theorem number_any (s : ByteArray) (hs : s.size ≤ 1000000000) (w : World) : Calls Tryz.prog 131 #[.string s] w fun e w' => e = .returned (.tuple #[.int .i64 (numD s).1, .int .i64 (numD s).2]) ∧ w' = w := by
  go_enter Tryz.func131, Tryz.ntmps131
  go_wp2
  go_loopw [4, 5, 6] (fun h u i wr => NRel s w h u i wr) (fun _ _ i _ => 7 - (intOf i).toNat)
  case atStart => exact ⟨rfl, 7, 0, 0, Nat.zero_le _, rfl, rfl, rfl, rfl, by decide, rfl⟩
  case round =>
    obtain ⟨rfl, f, k, n, hk, hk6, rfl, rfl, rfl, hn, hv⟩ := hrel
    by_cases hlt : k < s.size ∧ k < 7
    · obtain ⟨hlt, hlt6⟩ := hlt
      have e0 := byteAt_eq s k hlt
      have hb := byteAt_lt s k
      rw [bs_drop s k hlt, e0] at hv
      rw [e0] at hb
      clear e0
      obtain ⟨f, rfl⟩ : ∃ g, f = g + 1 := ⟨f - 1, by omega⟩
      by_cases hx : (128 : Int) ≤ ((s[k]'hlt).toNat : Int)
      · rw [nGo_more _ _ _ _ _ (by omega)] at hv
        have HV := hide hv
        clear hv
        rcases (by omega : k = 0 ∨ k = 1 ∨ k = 2 ∨ k = 3 ∨ k = 4 ∨ k = 5 ∨ k = 6) with rfl | rfl | rfl | rfl | rfl | rfl | rfl
        all_goals
          go_wp2
          go_roundw
          case rel =>
            refine ⟨rfl, _, _, _, ?_, ?_, ?_, ?_, ?_, ?_, unhide HV⟩
            · omega
            · omega
            · exact congrArg (Value.int .i64) (by omega)
            · rfl
            · rfl
            · omega
          case measure => simp [intOf]
      · rw [nGo_done _ _ _ _ _ (by omega)] at hv
        have HV := hide hv
        clear hv
        rcases (by omega : k = 0 ∨ k = 1 ∨ k = 2 ∨ k = 3 ∨ k = 4 ∨ k = 5 ∨ k = 6) with rfl | rfl | rfl | rfl | rfl | rfl | rfl
        all_goals
          go_wp2
          refine bodyPost_ret (v := .tuple #[.int .i64 (numD s).1, .int .i64 (numD s).2]) ?_ rfl ⟨rfl, rfl⟩
          rw [← unhide HV]
          simp [results, Tryz.results131, go_sem]
          omega
    · have e : nGo f k n ((bs s).drop k) = (0, 0) := by
        by_cases h : k < s.size
        · rw [(by omega : f = 0)]; rfl
        · rw [bs_end s k (by omega), nGo_nil]
      rw [e] at hv
      have HV := hide hv
      clear hv e
      by_cases h1 : (k : Int) < (s.size : Int)
      · have h2 : ¬ (k : Int) < 7 := by omega
        go_wp2
        refine bodyPost_ret (v := .tuple #[.int .i64 0, .int .i64 0]) (by simp [results, Tryz.results131, go_sem]) rfl ?_
        exact ⟨by rw [← unhide HV]; rfl, rfl⟩
      · go_wp2
        refine bodyPost_ret (v := .tuple #[.int .i64 0, .int .i64 0]) (by simp [results, Tryz.results131, go_sem]) rfl ?_
        exact ⟨by rw [← unhide HV]; rfl, rfl⟩
end Go.Proofs.YtfmbebofllgmoaaGreatDoor
namespace Go.Proofs.YtfmbebofllgmoaaGreatDoor
open Go.RowKit
attribute [local go_sem ↓] Go.wp_at_zero Go.wp_at_succ

/-- The numbers of a text (at most so many), or none. -/
def nsGo : Nat → List Nat → Option (List Nat)
  | 0, l => if l = [] then some [] else none
  | f + 1, l => if l = [] then some [] else if (nGo 7 0 0 l).2 = 0 then none else (nsGo f (l.drop (nGo 7 0 0 l).2)).map fun r => (nGo 7 0 0 l).1 :: r
def numsD (s : ByteArray) : Option (List Nat) := nsGo s.size (bs s)
theorem nsGo_vbs : ∀ (ns : List Nat) (f : Nat), (∀ n, n ∈ ns → n < 128 ^ 7) → (vbs ns).length ≤ f → nsGo f (vbs ns) = some ns
  | [], f, _, _ => by cases f <;> rfl
  | n :: r, 0, _, hf => by
    rw [vbs_cons, List.length_append] at hf
    have := vb_pos n
    omega
  | n :: r, f + 1, hn, hf => by
    have hp := vb_pos n
    rw [vbs_cons, List.length_append] at hf
    have hne : vbs (n :: r) ≠ [] := by
      rw [vbs_cons]
      intro e
      have := congrArg List.length e
      rw [List.length_append] at this
      simp at this
      rw [this.1] at hp
      simp at hp
    have hg := nGo_vb 7 0 0 n (vbs r) (hn n (List.mem_cons_self ..)) (by omega)
    rw [← vbs_cons] at hg
    simp only [nsGo, if_neg hne]
    rw [hg]
    simp only [Nat.zero_add, Nat.pow_zero, Nat.mul_one]
    rw [if_neg (by omega), vbs_cons, List.drop_left, nsGo_vbs r f (fun m hm => hn m (List.mem_cons_of_mem _ hm)) (by omega)]
    rfl
def NsRel (s0 : ByteArray) (w : World) (s v : Value) (wr : World) : Prop :=
  ∃ (s' : ByteArray) (ns : List Nat) (f : Nat), s = .string s' ∧ s'.size ≤ f ∧ s'.size + ns.length ≤ s0.size ∧ OwnI wr w.heap.size v (zs ns) ∧ (nsGo f (bs s')).map (ns ++ ·) = numsD s0 ∧ Fr (fun _ => False) w wr (fun _ => False)

def NsPost (s : ByteArray) (w : World) (e : Ending) (w' : World) : Prop :=
  Fr (fun _ => False) w w' (fun _ => False) ∧ match numsD s with
  | none => e = .returned (.tuple #[.slice none 0 0, .bool false])
  | some ns => ns.length ≤ s.size ∧ ∃ v, e = .returned (.tuple #[v, .bool true]) ∧ OwnI w' w.heap.size v (zs ns)
theorem npost_none {s : ByteArray} {w w' : World} {e : Ending} (hv : numsD s = none) (he : e = .returned (.tuple #[.slice none 0 0, .bool false])) (hf : Fr (fun _ => False) w w' (fun _ => False)) : NsPost s w e w' := by
  unfold NsPost; rw [hv]; exact ⟨hf, he⟩
theorem npost_some {s : ByteArray} {w w' : World} {e : Ending} {v : Value} {ns : List Nat} (hv : numsD s = some ns) (hl : ns.length ≤ s.size) (he : e = .returned (.tuple #[v, .bool true])) (ho : OwnI w' w.heap.size v (zs ns)) (hf : Fr (fun _ => False) w w' (fun _ => False)) : NsPost s w e w' := by
  unfold NsPost; rw [hv]; exact ⟨hf, hl, v, he, ho⟩

set_option maxHeartbeats 2000000 in
set_option maxRecDepth 20000 in
theorem numbers_any (s : ByteArray) (hs : s.size ≤ 1000) (w : World) : Calls Tryz.prog 111 #[.string s] w (NsPost s w) := by
  go_enter Tryz.func111, Tryz.ntmps111
  go_wp2
  go_loopw [0, 4] (fun h v wr => NsRel s w h v wr) (fun h _ _ => strSz h)
  case atStart => exact ⟨s, [], s.size, rfl, Nat.le_refl _, Nat.le_refl _, World.ownsRow_nil _ _ _ _, by simp [numsD], Fr.refl _ w⟩
  case round =>
    obtain ⟨s', ns, f, rfl, hf, hl, ho, hv, hfr⟩ := hrel
    have hsz : w.heap.size ≤ wr.heap.size := hfr.size
    have HO := hide ho
    have HNE := hide ho.lt
    have HF := hide hfr
    have HLE := hide (show (zs ns).length ≤ 1000 by simp [zs]; omega)
    clear ho hfr
    by_cases h0 : 0 < s'.size
    · have hb := str_pos h0
      have hne : bs s' ≠ [] := fun e => absurd h0 (bs_nil.1 e)
      obtain ⟨f, rfl⟩ : ∃ g, f = g + 1 := ⟨f - 1, by omega⟩
      simp only [nsGo, if_neg hne] at hv
      have hle := (nGo_le 7 0 0 (bs s')).1
      rw [bs_len, Nat.zero_add] at hle
      have hc := number_any s' (by omega)
      unfold numD at hc
      have HV := hide hv
      have HC := hide hc
      clear hv hc
      generalize hx : nGo 7 0 0 (bs s') = x at *
      obtain ⟨n, k⟩ := x
      by_cases hk : k = 0
      · subst hk
        go_wp2_with (go_at_call 131; refine ((unhide HC) _).mono ?_; rintro _ _ ⟨rfl, rfl⟩)
        exact bodyPost_ret (v := .tuple #[.slice none 0 0, .bool false]) (by simp [results, Tryz.results111, go_sem]) rfl (npost_none (by rw [← unhide HV]; rfl) rfl (unhide HF))
      · go_wp2_with first
          | (go_at_call 131; refine ((unhide HC) _).mono ?_; rintro _ _ ⟨rfl, rfl⟩)
          | (at_builtin; refine wpList_int rfl (.tmp 17) (.tmp 19) rfl rfl rfl (unhide HO) (unhide HLE) hsz ?_; intro v' w' o' g')
        have hse : (s'.extract k s'.size).size = s'.size - k := by simp [ByteArray.size_extract]
        go_roundw
        case rel =>
          refine ⟨_, ns ++ [n], f, rfl, by omega, by simp; omega, by simpa [zs] using o', ?_, ((unhide HF).alloc _).grown g' (fun j hj => ((unhide HNE) j hj).1)⟩
          rw [← unhide HV, if_neg hk, bs_extract]
          cases nsGo f ((bs s').drop k) <;> simp
        case measure => simp only [strSz]; omega
    · cases str_zero h0
      have hvs : numsD s = some ns := by
        have e : bs ⟨#[]⟩ = [] := rfl
        rw [← hv, e]
        cases f <;> simp [nsGo]
      have hns : ns.length ≤ s.size := by
        have : (⟨#[]⟩ : ByteArray).size = 0 := rfl
        omega
      clear hv hl
      go_wp2
      exact bodyPost_ret (v := .tuple #[u4, .bool true]) (by simp [results, Tryz.results111, go_sem]) rfl (npost_some hvs hns rfl (unhide HO) (unhide HF))
end Go.Proofs.YtfmbebofllgmoaaGreatDoor
namespace Go.Proofs.YtfmbebofllgmoaaGreatDoor
open Go.RowKit
attribute [local go_sem ↓] Go.wp_at_zero Go.wp_at_succ

theorem OwnI.fr {S S' : Nat → Prop} {w w' : World} {B : Nat} {v : Value} {l : List Int} (h : OwnI w B v l) (hf : Fr S w w' S') (hq : ∀ q, v.ownBlock = some q → q < w.heap.size ∧ ¬ S q) : OwnI w' B v l :=
  ownsRow_of_block h (fun q e => hf.same q (hq q e).1 (hq q e).2)
section
variable {σ : Type} {SA : (Nat → Prop) → World → σ → Prop} {ask : σ → Int → Int → Rep × σ} {may : Int → Int → Prop} {B : Nat} {S T : Nat → Prop} {w : World} {b : Nat} {pv : Nat → Value} {vt : Value} {s : PS} {x : σ}

end
end Go.Proofs.YtfmbebofllgmoaaGreatDoor
namespace Go.Proofs.YtfmbebofllgmoaaGreatDoor
open Go.RowKit Go.Sort

/-- A program: how many operations the start has, and which; how many timers and files; for each how many operations, and which. -/
structure Pg where
  sn : Nat
  sf : Nat → O3
  tn : Nat
  tl : Nat → Nat
  tf : Nat → Nat → O3
  fn : Nat
  fl : Nat → Nat
  ff : Nat → Nat → O3

end Go.Proofs.YtfmbebofllgmoaaGreatDoor
namespace Go.Proofs.YtfmbebofllgmoaaGreatDoor
open Go.RowKit Go.Sort
attribute [local go_sem ↓] Go.wp_at_zero Go.wp_at_succ

def s0 (fu : Int) : PS := ⟨fu, 0, fun _ => 0, 0, fun _ => (false, 0, 0, 0), 0, fun _ => false, [], 0, 0⟩
section
variable {σ : Type} {SA : (Nat → Prop) → World → σ → Prop} {ask : σ → Int → Int → Rep × σ} {may : Int → Int → Prop} {mes : σ → Nat} {B : Nat} {S T : Nat → Prop} {w : World} {b : Nat} {pv : Nat → Value} {vt : Value} {s : PS} {x : σ}
theorem frozen_rowE {w : World} {g e : Nat} {cur : Array Value} (hb : w.heap[g]? = some (.cells cur e (0, 0))) (j : Nat) : w.frozen? ⟨g, j, none⟩ = false := by simp [World.frozen?, hb]
end
end Go.Proofs.YtfmbebofllgmoaaGreatDoor
namespace Go.Proofs.YtfmbebofllgmoaaGreatDoor
open Go.RowKit

/-- The record with which bytes begin (what it tells, how long it is), or why there is none. -/
def rcL (l : List Nat) : Nat ⊕ (Inp × Nat) := match l with
  | [] => .inl 2
  | n :: t => if 128 ≤ n ∧ t = [] then .inl 2 else if n < 1 ∨ 40 < n then .inl 4 else if t.length < n + 4 then .inl 2 else if sm (t.take n) ≠ (t.drop n).take 4 then .inl 3 else match ipL (t.take n) with
    | none => .inl 4
    | some x => .inr (x, n + 5)
theorem rcL_size (l : List Nat) (x : Inp) (k : Nat) (h : rcL l = .inr (x, k)) : 0 < k ∧ k ≤ l.length := by
  cases l with
  | nil => simp [rcL] at h
  | cons n t =>
    simp only [rcL] at h
    split at h
    · cases h
    split at h
    · cases h
    split at h
    · cases h
    split at h
    · cases h
    split at h
    · cases h
    · injection h with h
      injection h with _ h
      rw [List.length_cons]
      omega
theorem rc_why (l : List Nat) (w : Nat) (h : rcL l = .inl w) : 2 ≤ w ∧ w ≤ 4 := by
  cases l with
  | nil => simp [rcL] at h; omega
  | cons n t =>
    simp only [rcL] at h
    split at h
    · injection h with h; omega
    split at h
    · injection h with h; omega
    split at h
    · injection h with h; omega
    split at h
    · injection h with h; omega
    split at h
    · injection h with h; omega
    · cases h
/-- A log is read, record by record. -/
def rdL : Nat → List Nat → Nat → List Inp × Nat × Nat
  | 0, _, at_ => ([], at_, 2)
  | f + 1, l, at_ => match rcL l with
    | .inl w => ([], at_, w)
    | .inr (x, k) => if x.1 = 5 then ([x], at_ + k, if l.drop k = [] then 1 else 5) else (x :: (rdL f (l.drop k) (at_ + k)).1, (rdL f (l.drop k) (at_ + k)).2)
theorem rdL_more : ∀ (f g : Nat) (l : List Nat) (a : Nat), l.length < f → l.length < g → rdL f l a = rdL g l a
  | 0, _, _, _, h, _ => absurd h (Nat.not_lt_zero _)
  | _, 0, _, _, _, h => absurd h (Nat.not_lt_zero _)
  | f + 1, g + 1, l, a, hf, hg => by
    simp only [rdL]
    cases h : rcL l with
    | inl w => rfl
    | inr q =>
      obtain ⟨x, k⟩ := q
      have hk := rcL_size l x k h
      simp only
      rw [rdL_more f g (l.drop k) (a + k) (by rw [List.length_drop]; omega) (by rw [List.length_drop]; omega)]
theorem rdL_step (f : Nat) (l : List Nat) (a : Nat) (x : Inp) (k : Nat) (h : rcL l = .inr (x, k)) (h5 : x.1 ≠ 5) : rdL (f + 1) l a = (x :: (rdL f (l.drop k) (a + k)).1, (rdL f (l.drop k) (a + k)).2) := by
  simp only [rdL, h]; rw [if_neg h5]
def hd3 : List Nat := [82, 82, 49]
/-- A whole log is read. -/
def readL (l : List Nat) : List Inp × Nat × Nat := if hd3 <+: l then rdL (l.length + 1) (l.drop 3) 3 else if l <+: hd3 then ([], 0, 2) else ([], 0, 4)
end Go.Proofs.YtfmbebofllgmoaaGreatDoor
namespace Go.Proofs.YtfmbebofllgmoaaGreatDoor
open Go.RowKit
attribute [local go_sem ↓] Go.wp_at_zero Go.wp_at_succ

theorem Fr.fresh {S T T' : Nat → Prop} {w W w' : World} (h : Fr S w W S) (h' : Fr T W w' T') (hT : ∀ k, T k → w.heap.size ≤ k) : Fr S w w' S :=
  ⟨h'.os.trans h.os, h'.tape.trans h.tape, h'.output.trans h.output, Nat.le_trans h.size h'.size, fun k hk hn => (h'.same k (Nat.lt_of_lt_of_le hk h.size) (fun ht => by have := hT k ht; omega)).trans (h.same k hk hn), fun _ _ h => h⟩
end Go.Proofs.YtfmbebofllgmoaaGreatDoor
namespace Go.Proofs.YtfmbebofllgmoaaGreatDoor
open Go.RowKit
attribute [local go_sem ↓] Go.wp_at_zero Go.wp_at_succ

/-- A writer in memory: its struct at lb, its bytes in a row of its own. -/
structure LogAt (w : World) (lb B : Nat) (v : Value) (b : ByteArray) : Prop where
  cell : w.cell? ⟨lb, 0, none⟩ = some v
  free : w.frozen? ⟨lb, 0, none⟩ = false
  row : OwnB w B v b
  sep : ¬ own v lb
  lt : lb < w.heap.size
def lgS (lb : Nat) (v : Value) (k : Nat) : Prop := k = lb ∨ own v k

/-- In the midst of a record. -/
structure HI (w : World) (lb B : Nat) (v0 : Value) (vb : Value) (bd : ByteArray) (W : World) (v : Value) (b : ByteArray) : Prop where
  log : LogAt W lb B v b
  body : OwnB W w.heap.size vb bd
  sep : ∀ k, own v k → ¬ own vb k
  old : lb < w.heap.size
  fr : Fr (lgS lb v0) w W (lgS lb v)
  bb : B ≤ w.heap.size

theorem OwnB.cells {w : World} {B g n cap : Nat} {b : ByteArray} (h : OwnB w B (.slice (some ⟨g, 0, none⟩) n cap) b) (h0 : 0 < b.size) : ∀ j u, (u8s b)[j]? = some u → w.cell? ((⟨g, 0, none⟩ : Addr).add j) = some u := by
  obtain ⟨g', cap', e, _, hc⟩ := h.bytes h0
  injection e with e _ _
  injection e with e
  injection e with e _ _
  subst e
  intro j u hj
  rw [addr_add]
  exact hc j u hj
end Go.Proofs.YtfmbebofllgmoaaGreatDoor
namespace Go.Proofs.YtfmbebofllgmoaaGreatDoor
open Go.RowKit
attribute [local go_sem ↓] Go.wp_at_zero Go.wp_at_succ

theorem fold_push (l : List UInt8) : ∀ r : ByteArray, ((l.map fun x => (x.toNat : Int)).foldl (fun r n => r.push (UInt8.ofNat n.toNat)) r) = ⟨r.data ++ l.toArray⟩ := by
  induction l with
  | nil => intro r; apply ByteArray.ext; simp
  | cons x l ih =>
    intro r
    rw [List.map_cons, List.foldl_cons, ih]
    apply ByteArray.ext
    simp
theorem convB {w : World} {g off cap : Nat} {b : ByteArray} (h : ∀ j u, (u8s b)[j]? = some u → w.cell? ((⟨g, off, none⟩ : Addr).add j) = some u) : (convert 54 9 (.slice (some ⟨g, off, none⟩) b.size cap)).run Tryz.prog w = .ok (.string b) w := by
  rw [run_convert_bytes_string w 54 9 5 _ _ _ Tryz.underlying54 Tryz.underlying5 Tryz.underlying9]
  have h1 := run_loadCells_list (P := Tryz.prog) (w := w) ⟨g, off, none⟩ (u8s b) h
  have e : u8s b = (b.data.toList.map fun x => (x.toNat : Int)).map (Value.int .u8) := by simp [u8s]
  rw [u8s_length] at h1
  rw [run_bytesToString w ⟨g, off, none⟩ b.size cap (b.data.toList.map fun x => (x.toNat : Int)) (by rw [h1, e]), fold_push]
  have e2 : (⟨ByteArray.empty.data ++ b.data.toList.toArray⟩ : ByteArray) = b := by apply ByteArray.ext; simp
  rw [e2]

end Go.Proofs.YtfmbebofllgmoaaGreatDoor
namespace Go.Proofs.YtfmbebofllgmoaaGreatDoor
open Go.RowKit Go.Conc
attribute [local go_sem ↓] Go.wp_at_zero Go.wp_at_succ

theorem ownI_shape {w : World} {B : Nat} {v : Value} {l : List Int} (h : OwnI w B v l) : ∃ a n c, v = .slice a n c := by
  rcases h.2 with ⟨h1, _⟩ | ⟨g, cap, cur, hv, _⟩
  · exact ⟨_, _, _, h1⟩
  · exact ⟨_, _, _, hv⟩
end Go.Proofs.YtfmbebofllgmoaaGreatDoor
namespace Go.Proofs.YtfmbebofllgmoaaGreatDoor
open Go.RowKit
attribute [local go_sem ↓] Go.wp_at_zero Go.wp_at_succ

/-- Four cells are written over. -/
theorem out4 {W : World} {g : Nat} {a0 a1 a2 a3 : Value} (h : W.heap[g]? = some (.cells #[a0, a1, a2, a3] 49)) (x0 x1 x2 x3 : Value) :
    ((((W.setCell ⟨g, 0, none⟩ x0).setCell ⟨g, 1, none⟩ x1).setCell ⟨g, 2, none⟩ x2).setCell ⟨g, 3, none⟩ x3).heap[g]? = some (.cells #[x0, x1, x2, x3] 49) := by
  have h0 := setRow_heap W g #[a0, a1, a2, a3] (#[a0, a1, a2, a3].setIfInBounds 0 x0) 49 (0, 0) h
  rw [← setCell_eq_setRow W g 0 _ 49 (0, 0) x0 h] at h0
  have h1 := setRow_heap _ g _ ((#[a0, a1, a2, a3].setIfInBounds 0 x0).setIfInBounds 1 x1) 49 (0, 0) h0
  rw [← setCell_eq_setRow _ g 1 _ 49 (0, 0) x1 h0] at h1
  have h2 := setRow_heap _ g _ (((#[a0, a1, a2, a3].setIfInBounds 0 x0).setIfInBounds 1 x1).setIfInBounds 2 x2) 49 (0, 0) h1
  rw [← setCell_eq_setRow _ g 2 _ 49 (0, 0) x2 h1] at h2
  have h3 := setRow_heap _ g _ ((((#[a0, a1, a2, a3].setIfInBounds 0 x0).setIfInBounds 1 x1).setIfInBounds 2 x2).setIfInBounds 3 x3) 49 (0, 0) h2
  rw [← setCell_eq_setRow _ g 3 _ 49 (0, 0) x3 h2] at h3
  exact h3
theorem out4_other {W : World} {g q : Nat} (hq : q ≠ g) (x0 x1 x2 x3 : Value) : ((((W.setCell ⟨g, 0, none⟩ x0).setCell ⟨g, 1, none⟩ x1).setCell ⟨g, 2, none⟩ x2).setCell ⟨g, 3, none⟩ x3).heap[q]? = W.heap[q]? := by
  rw [Below.heap_setCell _ _ _ _ hq, Below.heap_setCell _ _ _ _ hq, Below.heap_setCell _ _ _ _ hq, Below.heap_setCell _ _ _ _ hq]
theorem out4_fr {S S' : Nat → Prop} {w W : World} (h : Fr S w W S') {g : Nat} (hg : S g ∨ w.heap.size ≤ g) (x0 x1 x2 x3 : Value) : Fr S w ((((W.setCell ⟨g, 0, none⟩ x0).setCell ⟨g, 1, none⟩ x1).setCell ⟨g, 2, none⟩ x2).setCell ⟨g, 3, none⟩ x3) S' :=
  (((h.setCell _ _ hg).setCell _ _ hg).setCell _ _ hg).setCell _ _ hg

end Go.Proofs.YtfmbebofllgmoaaGreatDoor
namespace Go.Proofs.YtfmbebofllgmoaaGreatDoor
open Go.RowKit

theorem IntsIn.block {w w' : World} {v : Value} {l : List Int} {P : Nat → Prop} (h : IntsIn w v l P) (hb : ∀ q, P q → w'.heap[q]? = w.heap[q]?) : IntsIn w' v l P := by
  obtain ⟨a, c, hv, hc⟩ := h
  refine ⟨a, c, hv, hc.imp id fun ⟨q, off, e, hq, hcell⟩ => ⟨q, off, e, hq, fun i hi => ?_⟩⟩
  rw [World.cell?_of_block (w := w) (a := ⟨q, off + i, none⟩) (hb q hq)]
  exact hcell i hi

theorem ownI_ints {w : World} {B : Nat} {v : Value} {l : List Int} (h : OwnI w B v l) : IntsIn w v l (fun q => own v q ∧ B ≤ q ∧ q < w.heap.size) := by
  rcases Nat.eq_zero_or_pos l.length with h0 | h0
  · obtain rfl := List.length_eq_zero_iff.1 h0
    rcases h.2 with ⟨h1, _⟩ | ⟨g, cap, cur, hv, _⟩
    · exact ⟨none, 0, h1, .inl rfl⟩
    · exact ⟨_, cap, hv, .inl rfl⟩
  · obtain ⟨g, cap, cur, hv, hB, hg, _, _, _, hc⟩ := ownI_parts h h0
    refine ⟨_, cap, hv, .inr ⟨g, 0, rfl, ⟨by rw [hv]; rfl, hB, (Array.getElem?_eq_some_iff.1 hg).1⟩, fun i hi => by rw [Nat.zero_add]; exact hc i hi⟩⟩
end Go.Proofs.YtfmbebofllgmoaaGreatDoor
namespace Go.Proofs.YtfmbebofllgmoaaGreatDoor
open Go.RowKit

/-- Inputs of a log that may be heard. -/
def VL := { l : List Inp // ∀ x, x ∈ l → Fit x }

/-! ### The recorder's answers -/
theorem bs_one (k : Nat) (h : k < 256) : bs (one k) = [k] := by
  unfold one; rw [bs_push, bs_empty, List.nil_append, UInt8.toNat_ofNat']; congr 1; omega
theorem bs_filesS : ∀ (l : List Int) (r : ByteArray), bs (filesS l r) = bs r ++ vbs (l.map Int.toNat)
  | [], r => by simp [filesS, vbs]
  | a :: t, r => by
    have e : filesS (a :: t) r = filesS t (r ++ varS a.toNat) := rfl
    rw [e, bs_filesS t, bs_append, List.append_assoc]
    rfl
theorem bs_batch (l : List Int) (o n : Nat) : bs (batchS l) = bodyL (2, o, n, l.map Int.toNat) := by
  have e : bodyL (2, o, n, l.map Int.toNat) = 2 :: vbs ((l.map Int.toNat).length :: l.map Int.toNat) := rfl
  rw [e]
  unfold batchS
  rw [bs_filesS, bs_append, bs_one 2 (by omega), vbs_cons, List.length_map]
  simp [vb]
theorem bs_body1 (k o n : Nat) (fs : List Nat) (h : k = 1 ∨ k = 5) : bs (bodyS k 0 n) = bodyL (k, o, n, fs) := by
  have e : bodyL (k, o, n, fs) = k :: (vb n ++ []) := by rcases h with rfl | rfl <;> rfl
  rw [e]
  unfold bodyS
  rw [if_neg (by omega), bs_append, bs_one k (by omega), List.append_nil]
  rfl
theorem bs_body2 (k o n : Nat) (fs : List Nat) (h : k = 3 ∨ k = 4) : bs (bodyS k o n) = bodyL (k, o, n, fs) := by
  have e : bodyL (k, o, n, fs) = k :: (vb o ++ (vb n ++ [])) := by rcases h with rfl | rfl <;> rfl
  rw [e]
  unfold bodyS
  rw [if_pos h, bs_append, bs_append, bs_one k (by omega), List.append_nil, List.append_assoc]
  rfl
end Go.Proofs.YtfmbebofllgmoaaGreatDoor
namespace Go.Proofs.YtfmbebofllgmoaaGreatDoor
open Go.RowKit

/-- The input that kind and numbers may stand for. -/
def candD (k : Nat) : List Nat → Option Inp
  | [] => none
  | a :: t => if k = 1 then (if a ≤ 1099511627776 then some (1, 0, a, []) else none)
    else if k = 2 then (if risL (-1) (zs t) = true then some (2, 0, 0, t) else none)
    else if k = 3 then (match t with | [b] => if b < a ∧ 2 ≤ a ∧ a ≤ 8 then some (3, a, b, []) else none | _ => none)
    else if k = 4 then (match t with | [b] => if b < a ∧ a ≤ 1000000 then some (4, a, b, []) else none | _ => none)
    else if k = 5 then (if 1 ≤ a ∧ a ≤ 5 then some (5, 0, a, []) else none) else none
theorem cand_fit {k : Nat} {ns : List Nat} {x : Inp} (h : candD k ns = some x) : Fit x := by
  cases ns with
  | nil => simp [candD] at h
  | cons a t =>
    simp only [candD] at h
    split at h
    · split at h
      · injection h with h; subst h; exact .inl ⟨rfl, rfl, by assumption, rfl⟩
      · cases h
    split at h
    · split at h
      · injection h with h; subst h; exact .inr (.inl ⟨rfl, rfl, rfl, by assumption⟩)
      · cases h
    split at h
    · split at h
      · split at h
        · injection h with h; subst h; rename_i hh; exact .inr (.inr (.inl ⟨rfl, hh.2.1, hh.2.2, hh.1, rfl⟩))
        · cases h
      · cases h
    split at h
    · split at h
      · split at h
        · injection h with h; subst h; rename_i hh; exact .inr (.inr (.inr (.inl ⟨rfl, by show 1 ≤ a; omega, hh.2, hh.1, rfl⟩)))
        · cases h
      · cases h
    split at h
    · split at h
      · injection h with h; subst h; rename_i hh; exact .inr (.inr (.inr (.inr ⟨rfl, rfl, hh.1, hh.2, rfl⟩)))
      · cases h
    · cases h
theorem cand_of {y : Inp} (h : Fit y) : candD y.1 (nums y) = some y := by
  obtain ⟨k, o, n, fs⟩ := y
  rcases h with ⟨e, h1, h2, h3⟩ | ⟨e, h1, h2, h3⟩ | ⟨e, h1, h2, h3, h4⟩ | ⟨e, h1, h2, h3, h4⟩ | ⟨e, h1, h2, h3, h4⟩ <;> simp only at e h1 h2 h3 <;> subst e
  · subst h1 h3
    show candD 1 [n] = _
    simp only [candD]; rw [if_pos trivial, if_pos h2]
  · subst h1 h2
    show candD 2 (fs.length :: fs) = _
    simp only [candD]; rw [if_neg (by decide), if_pos trivial, if_pos h3]
  · simp only at h4
    subst h4
    show candD 3 [o, n] = _
    simp only [candD]; rw [if_neg (by decide), if_neg (by decide), if_pos trivial, if_pos ⟨h3, h1, h2⟩]
  · simp only at h4
    subst h4
    show candD 4 [o, n] = _
    simp only [candD]; rw [if_neg (by decide), if_neg (by decide), if_neg (by decide), if_pos trivial, if_pos ⟨h3, h2⟩]
  · simp only at h4
    subst h1 h4
    show candD 5 [n] = _
    simp only [candD]; rw [if_neg (by decide), if_neg (by decide), if_neg (by decide), if_neg (by decide), if_pos trivial, if_pos ⟨h2, h3⟩]
theorem nums_lt7 {y : Inp} (h : Fit y) : ∀ n, n ∈ nums y → n < 128 ^ 7 := fun n hn => Nat.lt_of_lt_of_le (h.nums_lt n hn) (by decide)
theorem parse_some {k : Nat} {r : List Nat} {y : Inp} (hb : ∀ x, x ∈ k :: r → x < 256) (h : ipL (k :: r) = some y) : y.1 = k ∧ nsGo r.length r = some (nums y) ∧ candD k (nums y) = some y := by
  obtain ⟨hf, hl⟩ := (ipL_iff _ hb y).1 h
  unfold bodyL at hl
  injection hl with e1 e2
  refine ⟨e1.symm, ?_, by rw [e1]; exact cand_of hf⟩
  rw [e2]
  exact nsGo_vbs (nums y) _ (nums_lt7 hf) (Nat.le_refl _)
section
variable {s : ByteArray} {k : Nat} {r : List Nat}
theorem parse_nums (hbs : bs s = k :: r) (hn : nsGo r.length r = none) : ipL (bs s) = none := by
  cases h : ipL (bs s) with
  | none => rfl
  | some y =>
    rw [hbs] at h
    have := parse_some (by rw [← hbs]; exact bs_lt s) h
    rw [hn] at this
    cases this.2.1
theorem parse_bad {ns : List Nat} (hbs : bs s = k :: r) (hn : nsGo r.length r = some ns) (hc : candD k ns = none) : ipL (bs s) = none := by
  cases h : ipL (bs s) with
  | none => rfl
  | some y =>
    rw [hbs] at h
    obtain ⟨_, h2, h3⟩ := parse_some (by rw [← hbs]; exact bs_lt s) h
    rw [hn] at h2
    injection h2 with h2
    rw [← h2, hc] at h3
    cases h3
theorem parse_cand {ns : List Nat} {x : Inp} (hbs : bs s = k :: r) (hn : nsGo r.length r = some ns) (hc : candD k ns = some x) {b : ByteArray} (hb : bs b = bodyL x) : (b = s → ipL (bs s) = some x) ∧ (b ≠ s → ipL (bs s) = none) := by
  refine ⟨fun e => ?_, fun hne => ?_⟩
  · exact (ipL_iff _ (bs_lt s) x).2 ⟨cand_fit hc, by rw [← hb, e]⟩
  · cases h : ipL (bs s) with
    | none => rfl
    | some y =>
      have h0 := h
      rw [hbs] at h
      obtain ⟨_, h2, h3⟩ := parse_some (by rw [← hbs]; exact bs_lt s) h
      rw [hn] at h2
      injection h2 with h2
      rw [← h2, hc] at h3
      injection h3 with h3
      subst h3
      exact absurd (bs_inj (hb.trans ((ipL_iff _ (bs_lt s) _).1 h0).2.symm)) hne
end
theorem risL_snoc : ∀ (l : List Int) (last f : Int), risL last (l ++ [f]) = (risL last l && decide (f < 8) && decide ((l.getLast?).getD last < f))
  | [], last, f => by
    simp only [List.nil_append, risL]
    by_cases h : f ≤ last ∨ 8 ≤ f
    · rw [if_pos h]
      rcases h with h | h
      · have : ¬ last < f := by omega
        simp [this]
      · have : ¬ f < 8 := by omega
        simp [this]
    · rw [if_neg h]
      have h1 : f < 8 := by omega
      have h2 : last < f := by omega
      simp [h1, h2]
  | x :: t, last, f => by
    have ih := risL_snoc t x f
    simp only [List.cons_append, risL]
    by_cases h : x ≤ last ∨ 8 ≤ x
    · rw [if_pos h, if_pos h]; simp
    · rw [if_neg h, if_neg h, ih]
      congr 2
      cases t with
      | nil => rfl
      | cons y t => simp [List.getLast?_cons]
end Go.Proofs.YtfmbebofllgmoaaGreatDoor
namespace Go.Proofs.YtfmbebofllgmoaaGreatDoor
open Go.RowKit
attribute [local go_sem ↓] Go.wp_at_zero Go.wp_at_succ

/-- The kind and how many numbers there are do not go together. -/
def Unfit (k m : Nat) : Prop := (k = 1 ∧ m ≠ 1) ∨ (k = 2 ∧ m = 0) ∨ (k = 3 ∧ m ≠ 2) ∨ (k = 4 ∧ m ≠ 2) ∨ (k = 5 ∧ m ≠ 1) ∨ (k ≠ 1 ∧ k ≠ 2 ∧ k ≠ 3 ∧ k ≠ 4 ∧ k ≠ 5)
theorem inpN_unfit {k : Nat} {ns : List Nat} (h : Unfit k ns.length) : inpN k ns = none := by
  unfold inpN
  unfold Unfit at h
  split
  all_goals first | rfl | (simp only [List.length_cons, List.length_nil] at h; omega)

theorem ownI_slice {w : World} {B : Nat} {v : Value} {l : List Int} (h : OwnI w B v l) : ∃ a c, v = .slice a l.length c := by
  rcases h.2 with ⟨hv, h0⟩ | ⟨g, cap, cur, hv, _⟩
  · have h1 : l.length = 0 := h0
    exact ⟨none, 0, by rw [h1]; exact hv⟩
  · exact ⟨_, _, hv⟩
theorem zs_len (l : List Nat) : (zs l).length = l.length := by simp [zs]
set_option maxHeartbeats 4000000 in
set_option maxRecDepth 20000 in
theorem input_unfit (b : ByteArray) (h0 : 0 < b.size) (hs : b.size ≤ 40) (w : World) (ns : List Nat) (hv : varsM (b.extract 1 b.size) = some ns) (hu : Unfit (byteAt b 0) ns.length) (hk : byteAt b 0 ≤ 5 ∧ 1 ≤ byteAt b 0) : Calls Tryz.prog 101 #[.string b] w (InPost b w) := by
  have hse : (b.extract 1 b.size).size = b.size - 1 := by simp [ByteArray.size_extract]
  have HM : Hid (inpM b = none) := hide (by unfold inpM; rw [hv]; exact inpN_unfit hu)
  have HV := hide hv
  have HC := hide fun w => varints_any (b.extract 1 b.size) (by omega) w
  unfold Unfit at hu
  rw [byteAt_eq b 0 h0] at hu hk
  clear hv
  rcases hu with ⟨hb0, hm⟩ | ⟨hb0, hm⟩ | ⟨hb0, hm⟩ | ⟨hb0, hm⟩ | ⟨hb0, hm⟩ | ⟨hb1, hb2, hb3, hb4, hb5⟩
  all_goals first | (exfalso; omega) | skip
  · have hb0' : ((b[0]'h0).toNat : Int) = 1 := by omega
    clear hb0 hk
    go_enter Tryz.func101, Tryz.ntmps101
    go_wp2_with (go_at_call 122; (refine (unhide HC _).mono ?_; rintro e w1 p1; obtain ⟨f1, hl1, v1, rfl, o1⟩ := vs_some p1 (unhide HV); have F1 := hide f1; obtain ⟨a1, c1, rfl⟩ := ownI_slice o1; rw [zs_len]; obtain ⟨⟨r0, r1, r2, r3⟩, rz⟩ := resB f1; clear p1 f1 o1))
    exact bodyPost_ret (v := .tuple #[.agg #[.int .i64 0, .int .i64 0, .int .i64 0, .slice none 0 0], .bool false]) (by simp [results, Tryz.results101, go_sem, r0, r1, r2, r3]) rfl (in_none (unhide HM) (res_fr (unhide F1) _ _ _ _))
  · have hb0' : ((b[0]'h0).toNat : Int) = 2 := by omega
    clear hb0 hk
    go_enter Tryz.func101, Tryz.ntmps101
    go_wp2_with (go_at_call 122; (refine (unhide HC _).mono ?_; rintro e w1 p1; obtain ⟨f1, hl1, v1, rfl, o1⟩ := vs_some p1 (unhide HV); have F1 := hide f1; obtain ⟨a1, c1, rfl⟩ := ownI_slice o1; rw [zs_len]; obtain ⟨⟨r0, r1, r2, r3⟩, rz⟩ := resB f1; clear p1 f1 o1))
    exact bodyPost_ret (v := .tuple #[.agg #[.int .i64 0, .int .i64 0, .int .i64 0, .slice none 0 0], .bool false]) (by simp [results, Tryz.results101, go_sem, r0, r1, r2, r3]) rfl (in_none (unhide HM) (res_fr (unhide F1) _ _ _ _))
  · have hb0' : ((b[0]'h0).toNat : Int) = 3 := by omega
    clear hb0 hk
    go_enter Tryz.func101, Tryz.ntmps101
    go_wp2_with (go_at_call 122; (refine (unhide HC _).mono ?_; rintro e w1 p1; obtain ⟨f1, hl1, v1, rfl, o1⟩ := vs_some p1 (unhide HV); have F1 := hide f1; obtain ⟨a1, c1, rfl⟩ := ownI_slice o1; rw [zs_len]; obtain ⟨⟨r0, r1, r2, r3⟩, rz⟩ := resB f1; clear p1 f1 o1))
    exact bodyPost_ret (v := .tuple #[.agg #[.int .i64 0, .int .i64 0, .int .i64 0, .slice none 0 0], .bool false]) (by simp [results, Tryz.results101, go_sem, r0, r1, r2, r3]) rfl (in_none (unhide HM) (res_fr (unhide F1) _ _ _ _))
  · have hb0' : ((b[0]'h0).toNat : Int) = 4 := by omega
    clear hb0 hk
    go_enter Tryz.func101, Tryz.ntmps101
    go_wp2_with (go_at_call 122; (refine (unhide HC _).mono ?_; rintro e w1 p1; obtain ⟨f1, hl1, v1, rfl, o1⟩ := vs_some p1 (unhide HV); have F1 := hide f1; obtain ⟨a1, c1, rfl⟩ := ownI_slice o1; rw [zs_len]; obtain ⟨⟨r0, r1, r2, r3⟩, rz⟩ := resB f1; clear p1 f1 o1))
    exact bodyPost_ret (v := .tuple #[.agg #[.int .i64 0, .int .i64 0, .int .i64 0, .slice none 0 0], .bool false]) (by simp [results, Tryz.results101, go_sem, r0, r1, r2, r3]) rfl (in_none (unhide HM) (res_fr (unhide F1) _ _ _ _))
  · have hb0' : ((b[0]'h0).toNat : Int) = 5 := by omega
    clear hb0 hk
    go_enter Tryz.func101, Tryz.ntmps101
    go_wp2_with (go_at_call 122; (refine (unhide HC _).mono ?_; rintro e w1 p1; obtain ⟨f1, hl1, v1, rfl, o1⟩ := vs_some p1 (unhide HV); have F1 := hide f1; obtain ⟨a1, c1, rfl⟩ := ownI_slice o1; rw [zs_len]; obtain ⟨⟨r0, r1, r2, r3⟩, rz⟩ := resB f1; clear p1 f1 o1))
    exact bodyPost_ret (v := .tuple #[.agg #[.int .i64 0, .int .i64 0, .int .i64 0, .slice none 0 0], .bool false]) (by simp [results, Tryz.results101, go_sem, r0, r1, r2, r3]) rfl (in_none (unhide HM) (res_fr (unhide F1) _ _ _ _))
end Go.Proofs.YtfmbebofllgmoaaGreatDoor
namespace Go.Proofs.YtfmbebofllgmoaaGreatDoor
open Go.RowKit
attribute [local go_sem ↓] Go.wp_at_zero Go.wp_at_succ

section
variable {P : Program} {ops : Array Oper} {Q : Exit → Act → World → Prop} {md : Region.Mode} {S : World → Prop} {i : Nat} {oi : Oper} {fuel d : Nat} {listed : Array Bool} {a : Act} {w : World}
theorem take_yes {v : Value} (ho : ops[i]? = some oi) (hd : oi.dst = some d) (hn : Region.noSelect ops = true) (hf : Region.free md ops listed i = true) (hr : (Region.ready md ops listed).contains i = true) (hq : ∀ (c : List PanicEntry) (a : Act) (w : World), Q (Exit.panic c) (a.put oi.dst v) w → Q (Exit.panic c) a w)
    (hw : Region.wanted oi (yielded ops a.tmps) = true) (hy : ∀ w, S w → (execOp a.eval oi).run P w = .ok (.value v) w) (hS : S w) (h : wpAnyH P md ops Q S fuel (listed.setIfInBounds i true) ⟨a.tmps.setIfInBounds d v, a.defers⟩ w) : wpAnyH P md ops Q S (fuel + 1) listed a w :=
  wpAnyH_take ho hn hf hr hq (Or.inl ⟨hw, hy⟩) hS (by rw [hd]; exact h)
theorem take_no (ho : ops[i]? = some oi) (hd : oi.dst = some d) (hn : Region.noSelect ops = true) (hf : Region.free md ops listed i = true) (hr : (Region.ready md ops listed).contains i = true) (hq : ∀ (c : List PanicEntry) (a : Act) (w : World), Q (Exit.panic c) (a.put oi.dst undef) w → Q (Exit.panic c) a w)
    (hw : Region.wanted oi (yielded ops a.tmps) = false) (hS : S w) (h : wpAnyH P md ops Q S fuel (listed.setIfInBounds i true) ⟨a.tmps.setIfInBounds d undef, a.defers⟩ w) : wpAnyH P md ops Q S (fuel + 1) listed a w :=
  wpAnyH_take ho hn hf hr hq (Or.inr ⟨hw, rfl⟩) hS (by rw [hd]; exact h)
end

set_option maxHeartbeats 2000000 in
set_option maxRecDepth 20000 in
theorem input_pick_out (b : ByteArray) (h0 : 0 < b.size) (hs : b.size ≤ 40) (w : World) (x y : Nat) (hv : varsM (b.extract 1 b.size) = some [x, y]) (hk : byteAt b 0 = 3) (hx : ¬ (2 ≤ x ∧ x ≤ 8)) : Calls Tryz.prog 101 #[.string b] w (InPost b w) := by
  have hse : (b.extract 1 b.size).size = b.size - 1 := by simp [ByteArray.size_extract]
  have HM : Hid (inpM b = if 2 ≤ x ∧ x ≤ 8 ∧ y < x then some (x, y, []) else none) := hide (by unfold inpM; rw [hv, hk]; rfl)
  have hb0 : ((b[0]'h0).toNat : Int) = 3 := by rw [← byteAt_eq b 0 h0, hk]; rfl
  have HV := hide hv
  have HC := hide fun w => varints_any (b.extract 1 b.size) (by omega) w
  clear hv
  go_enter Tryz.func101, Tryz.ntmps101
  go_wp2_with (go_at_call 122; (refine (unhide HC _).mono ?_; rintro e w1 p1; obtain ⟨f1, hl1, v1, rfl, o1⟩ := vs_some p1 (unhide HV); have F1 := hide f1; obtain ⟨g, cap, cur, rfl, hg1, hg2, hg3, hg4, hg5, hg6⟩ := ownI_parts o1 (by simp [zs]); have cz := hg6 0 (by simp [zs]); have cy := hg6 1 (by simp [zs]); simp only [zs, List.map_cons, List.map_nil, List.getD_cons_zero, List.getD_cons_succ, List.length_cons, List.length_nil, Int.ofNat_eq_natCast] at cz cy hg3 ⊢; have hg7 : w.heap.size < g := (by simp at hg1; omega); have hne : w.heap.size ≠ g := (by omega); clear hg1 hg2 hg4 hg5 cur hl1 hk; obtain ⟨⟨r0, r1, r2, r3⟩, rz⟩ := resB f1; clear p1 f1 o1 hg6))
  have hw : (decide ((2 : Int) ≤ x) && decide ((x : Int) ≤ 8)) = false := by simp; omega
  have HW := hide hw
  have HX := hide hx
  clear hw hx
  refine wp_region_held_drew (S := fun w' => w'.cell? ⟨g, 0, none⟩ = some (.int .i64 x) ∧ w'.cell? ⟨g, 1, none⟩ = some (.int .i64 y)) (by kernel_rfl) ?_ (fun hHeld => ?_)
  · simp [go_sem, cz, cy]
  refine take_yes (i := 0) (d := 69) (v := ?_) (fuel := 22) rfl rfl (by kernel_rfl) (by kernel_rfl) (by kernel_rfl) (fun _ _ _ h => h) (by rfl) ?_ (by assumption) ?_
  rotate_left
  · intro w hSw; (try dsimp only at hSw); go_simp; try with_reducible rfl
  simp only [List.setIfInBounds_toArray, List.set_cons_zero, List.set_cons_succ]
  refine take_yes (i := 1) (d := 70) (v := ?_) (fuel := 21) rfl rfl (by kernel_rfl) (by kernel_rfl) (by kernel_rfl) (fun _ _ _ h => h) (by rfl) ?_ (by assumption) ?_
  rotate_left
  · intro w hSw; (try dsimp only at hSw); go_simp; try with_reducible rfl
  simp only [List.setIfInBounds_toArray, List.set_cons_zero, List.set_cons_succ]
  refine take_yes (i := 2) (d := 71) (v := ?_) (fuel := 20) rfl rfl (by kernel_rfl) (by kernel_rfl) (by kernel_rfl) (fun _ _ _ h => h) (by rfl) ?_ (by assumption) ?_
  rotate_left
  · intro w hSw; (try dsimp only at hSw); go_simp; try with_reducible rfl
  simp only [List.setIfInBounds_toArray, List.set_cons_zero, List.set_cons_succ]
  refine take_yes (i := 3) (d := 72) (v := ?_) (fuel := 19) rfl rfl (by kernel_rfl) (by kernel_rfl) (by kernel_rfl) (fun _ _ _ h => h) (by rfl) ?_ (by assumption) ?_
  rotate_left
  · intro w hSw; (try dsimp only at hSw); go_simp; try with_reducible rfl
  simp only [List.setIfInBounds_toArray, List.set_cons_zero, List.set_cons_succ]
  refine take_yes (i := 4) (d := 73) (v := ?_) (fuel := 18) rfl rfl (by kernel_rfl) (by kernel_rfl) (by kernel_rfl) (fun _ _ _ h => h) (by rfl) ?_ (by assumption) ?_
  rotate_left
  · intro w hSw; (try dsimp only at hSw); go_simp; try with_reducible rfl
  simp only [List.setIfInBounds_toArray, List.set_cons_zero, List.set_cons_succ]
  refine take_yes (i := 5) (d := 74) (v := ?_) (fuel := 17) rfl rfl (by kernel_rfl) (by kernel_rfl) (by kernel_rfl) (fun _ _ _ h => h) (by rfl) ?_ (by assumption) ?_
  rotate_left
  · intro w hSw; (try dsimp only at hSw); go_simp; try with_reducible rfl
  simp only [List.setIfInBounds_toArray, List.set_cons_zero, List.set_cons_succ]
  refine take_yes (i := 6) (d := 75) (v := ?_) (fuel := 16) rfl rfl (by kernel_rfl) (by kernel_rfl) (by kernel_rfl) (fun _ _ _ h => h) (by rfl) ?_ (by assumption) ?_
  rotate_left
  · intro w hSw; (try dsimp only at hSw); go_simp; try with_reducible rfl
  simp only [List.setIfInBounds_toArray, List.set_cons_zero, List.set_cons_succ]
  refine take_yes (i := 7) (d := 76) (v := ?_) (fuel := 15) rfl rfl (by kernel_rfl) (by kernel_rfl) (by kernel_rfl) (fun _ _ _ h => h) (by rfl) ?_ (by assumption) ?_
  rotate_left
  · intro w hSw; (try dsimp only at hSw); go_simp; try with_reducible rfl
  simp only [List.setIfInBounds_toArray, List.set_cons_zero, List.set_cons_succ]
  refine take_yes (i := 8) (d := 77) (v := ?_) (fuel := 14) rfl rfl (by kernel_rfl) (by kernel_rfl) (by kernel_rfl) (fun _ _ _ h => h) (by rfl) ?_ (by assumption) ?_
  rotate_left
  · intro w hSw; (try dsimp only at hSw); go_simp; try with_reducible rfl
  simp only [List.setIfInBounds_toArray, List.set_cons_zero, List.set_cons_succ]
  refine take_yes (i := 9) (d := 78) (v := ?_) (fuel := 13) rfl rfl (by kernel_rfl) (by kernel_rfl) (by kernel_rfl) (fun _ _ _ h => h) (by rfl) ?_ (by assumption) ?_
  rotate_left
  · intro w hSw; (try dsimp only at hSw); go_simp; try with_reducible rfl
  simp only [List.setIfInBounds_toArray, List.set_cons_zero, List.set_cons_succ]
  refine take_yes (i := 10) (d := 79) (v := ?_) (fuel := 12) rfl rfl (by kernel_rfl) (by kernel_rfl) (by kernel_rfl) (fun _ _ _ h => h) (by rfl) ?_ (by assumption) ?_
  rotate_left
  · intro w hSw; (try dsimp only at hSw); go_simp; try with_reducible rfl
  simp only [List.setIfInBounds_toArray, List.set_cons_zero, List.set_cons_succ]
  refine wpAnyH_ready (rs := [11]) (by kernel_rfl) (by simp) ?_
  refine AllReadyH.cons rfl (fun K hK => ?_) AllReadyH.nil
  go_simp
  go_at_call 124
  refine (within_any _ _ _ _).mono ?_
  rintro _ _ ⟨rfl, rfl⟩
  rw [unhide HW]
  refine hK.out _ _ ?_ (fun hHeld => ?_)
  · simp [go_sem, cz, cy]
  clear hK K
  refine take_yes (i := 12) (d := 81) (v := ?_) (fuel := 10) rfl rfl (by kernel_rfl) (by kernel_rfl) (by kernel_rfl) (fun _ _ _ h => h) (by rfl) ?_ (by assumption) ?_
  rotate_left
  · intro w hSw; (try dsimp only at hSw); go_simp; try with_reducible rfl
  simp only [List.setIfInBounds_toArray, List.set_cons_zero, List.set_cons_succ]
  refine take_no (i := 13) (d := 82) (fuel := 9) rfl rfl (by kernel_rfl) (by kernel_rfl) (by kernel_rfl) (fun _ _ _ h => h) (by rfl) (by assumption) ?_
  simp only [List.setIfInBounds_toArray, List.set_cons_zero, List.set_cons_succ]
  refine take_no (i := 14) (d := 83) (fuel := 8) rfl rfl (by kernel_rfl) (by kernel_rfl) (by kernel_rfl) (fun _ _ _ h => h) (by rfl) (by assumption) ?_
  simp only [List.setIfInBounds_toArray, List.set_cons_zero, List.set_cons_succ]
  refine take_no (i := 15) (d := 84) (fuel := 7) rfl rfl (by kernel_rfl) (by kernel_rfl) (by kernel_rfl) (fun _ _ _ h => h) (by rfl) (by assumption) ?_
  simp only [List.setIfInBounds_toArray, List.set_cons_zero, List.set_cons_succ]
  refine take_no (i := 16) (d := 85) (fuel := 6) rfl rfl (by kernel_rfl) (by kernel_rfl) (by kernel_rfl) (fun _ _ _ h => h) (by rfl) (by assumption) ?_
  simp only [List.setIfInBounds_toArray, List.set_cons_zero, List.set_cons_succ]
  refine take_no (i := 17) (d := 86) (fuel := 5) rfl rfl (by kernel_rfl) (by kernel_rfl) (by kernel_rfl) (fun _ _ _ h => h) (by rfl) (by assumption) ?_
  simp only [List.setIfInBounds_toArray, List.set_cons_zero, List.set_cons_succ]
  refine take_no (i := 18) (d := 87) (fuel := 4) rfl rfl (by kernel_rfl) (by kernel_rfl) (by kernel_rfl) (fun _ _ _ h => h) (by rfl) (by assumption) ?_
  simp only [List.setIfInBounds_toArray, List.set_cons_zero, List.set_cons_succ]
  refine take_no (i := 19) (d := 88) (fuel := 3) rfl rfl (by kernel_rfl) (by kernel_rfl) (by kernel_rfl) (fun _ _ _ h => h) (by rfl) (by assumption) ?_
  simp only [List.setIfInBounds_toArray, List.set_cons_zero, List.set_cons_succ]
  refine take_yes (i := 20) (d := 89) (v := ?_) (fuel := 2) rfl rfl (by kernel_rfl) (by kernel_rfl) (by kernel_rfl) (fun _ _ _ h => h) (by rfl) ?_ (by assumption) ?_
  rotate_left
  · intro w hSw; (try dsimp only at hSw); go_simp; try with_reducible rfl
  simp only [List.setIfInBounds_toArray, List.set_cons_zero, List.set_cons_succ]
  refine wpAnyH_ready (rs := [21]) (by kernel_rfl) (by simp) ?_
  refine AllReadyH.cons rfl (fun K hK => ?_) AllReadyH.nil
  go_simp
  refine hK.out _ _ ?_ (fun hHeld => ?_)
  · simp [go_sem, cz, cy]
  clear hK K
  refine take_yes (i := 22) (d := 3) (v := ?_) (fuel := 0) rfl rfl (by kernel_rfl) (by kernel_rfl) (by kernel_rfl) (fun _ _ _ h => h) (by rfl) ?_ (by assumption) ?_
  rotate_left
  · intro w hSw; (try dsimp only at hSw); go_simp; try with_reducible rfl
  simp only [List.setIfInBounds_toArray, List.set_cons_zero, List.set_cons_succ]
  refine wpAnyH_done (by kernel_rfl) ?_ _
  go_wp2
  exact bodyPost_ret (v := .tuple #[.agg #[.int .i64 3, .int .i64 x, .int .i64 y, .slice none 0 0], .bool false]) (by simp [results, Tryz.results101, go_sem, r0, r1, r2, r3]) rfl (in_none (by rw [unhide HM, if_neg (by have := unhide HX; omega)]) (res_fr (unhide F1) _ _ _ _).drew)

set_option maxHeartbeats 2000000 in
set_option maxRecDepth 20000 in
theorem input_lot_out (b : ByteArray) (h0 : 0 < b.size) (hs : b.size ≤ 40) (w : World) (x y : Nat) (hv : varsM (b.extract 1 b.size) = some [x, y]) (hk : byteAt b 0 = 4) (hx : ¬ (1 ≤ x ∧ x ≤ 1000000)) : Calls Tryz.prog 101 #[.string b] w (InPost b w) := by
  have hse : (b.extract 1 b.size).size = b.size - 1 := by simp [ByteArray.size_extract]
  have HM : Hid (inpM b = if 1 ≤ x ∧ x ≤ 1000000 ∧ y < x then some (x, y, []) else none) := hide (by unfold inpM; rw [hv, hk]; rfl)
  have hb0 : ((b[0]'h0).toNat : Int) = 4 := by rw [← byteAt_eq b 0 h0, hk]; rfl
  have HV := hide hv
  have HC := hide fun w => varints_any (b.extract 1 b.size) (by omega) w
  clear hv
  go_enter Tryz.func101, Tryz.ntmps101
  go_wp2_with (go_at_call 122; (refine (unhide HC _).mono ?_; rintro e w1 p1; obtain ⟨f1, hl1, v1, rfl, o1⟩ := vs_some p1 (unhide HV); have F1 := hide f1; obtain ⟨g, cap, cur, rfl, hg1, hg2, hg3, hg4, hg5, hg6⟩ := ownI_parts o1 (by simp [zs]); have cz := hg6 0 (by simp [zs]); have cy := hg6 1 (by simp [zs]); simp only [zs, List.map_cons, List.map_nil, List.getD_cons_zero, List.getD_cons_succ, List.length_cons, List.length_nil, Int.ofNat_eq_natCast] at cz cy hg3 ⊢; have hg7 : w.heap.size < g := (by simp at hg1; omega); have hne : w.heap.size ≠ g := (by omega); clear hg1 hg2 hg4 hg5 cur hl1 hk; obtain ⟨⟨r0, r1, r2, r3⟩, rz⟩ := resB f1; clear p1 f1 o1 hg6))
  have hw : (decide ((1 : Int) ≤ x) && decide ((x : Int) ≤ 1000000)) = false := by simp; omega
  have HW := hide hw
  have HX := hide hx
  clear hw hx
  refine wp_region_held_drew (S := fun w' => w'.cell? ⟨g, 0, none⟩ = some (.int .i64 x) ∧ w'.cell? ⟨g, 1, none⟩ = some (.int .i64 y)) (by kernel_rfl) ?_ (fun hHeld => ?_)
  · simp [go_sem, cz, cy]
  refine take_yes (i := 0) (d := 98) (v := ?_) (fuel := 22) rfl rfl (by kernel_rfl) (by kernel_rfl) (by kernel_rfl) (fun _ _ _ h => h) (by rfl) ?_ (by assumption) ?_
  rotate_left
  · intro w hSw; (try dsimp only at hSw); go_simp; try with_reducible rfl
  simp only [List.setIfInBounds_toArray, List.set_cons_zero, List.set_cons_succ]
  refine take_yes (i := 1) (d := 99) (v := ?_) (fuel := 21) rfl rfl (by kernel_rfl) (by kernel_rfl) (by kernel_rfl) (fun _ _ _ h => h) (by rfl) ?_ (by assumption) ?_
  rotate_left
  · intro w hSw; (try dsimp only at hSw); go_simp; try with_reducible rfl
  simp only [List.setIfInBounds_toArray, List.set_cons_zero, List.set_cons_succ]
  refine take_yes (i := 2) (d := 100) (v := ?_) (fuel := 20) rfl rfl (by kernel_rfl) (by kernel_rfl) (by kernel_rfl) (fun _ _ _ h => h) (by rfl) ?_ (by assumption) ?_
  rotate_left
  · intro w hSw; (try dsimp only at hSw); go_simp; try with_reducible rfl
  simp only [List.setIfInBounds_toArray, List.set_cons_zero, List.set_cons_succ]
  refine take_yes (i := 3) (d := 101) (v := ?_) (fuel := 19) rfl rfl (by kernel_rfl) (by kernel_rfl) (by kernel_rfl) (fun _ _ _ h => h) (by rfl) ?_ (by assumption) ?_
  rotate_left
  · intro w hSw; (try dsimp only at hSw); go_simp; try with_reducible rfl
  simp only [List.setIfInBounds_toArray, List.set_cons_zero, List.set_cons_succ]
  refine take_yes (i := 4) (d := 102) (v := ?_) (fuel := 18) rfl rfl (by kernel_rfl) (by kernel_rfl) (by kernel_rfl) (fun _ _ _ h => h) (by rfl) ?_ (by assumption) ?_
  rotate_left
  · intro w hSw; (try dsimp only at hSw); go_simp; try with_reducible rfl
  simp only [List.setIfInBounds_toArray, List.set_cons_zero, List.set_cons_succ]
  refine take_yes (i := 5) (d := 103) (v := ?_) (fuel := 17) rfl rfl (by kernel_rfl) (by kernel_rfl) (by kernel_rfl) (fun _ _ _ h => h) (by rfl) ?_ (by assumption) ?_
  rotate_left
  · intro w hSw; (try dsimp only at hSw); go_simp; try with_reducible rfl
  simp only [List.setIfInBounds_toArray, List.set_cons_zero, List.set_cons_succ]
  refine take_yes (i := 6) (d := 104) (v := ?_) (fuel := 16) rfl rfl (by kernel_rfl) (by kernel_rfl) (by kernel_rfl) (fun _ _ _ h => h) (by rfl) ?_ (by assumption) ?_
  rotate_left
  · intro w hSw; (try dsimp only at hSw); go_simp; try with_reducible rfl
  simp only [List.setIfInBounds_toArray, List.set_cons_zero, List.set_cons_succ]
  refine take_yes (i := 7) (d := 105) (v := ?_) (fuel := 15) rfl rfl (by kernel_rfl) (by kernel_rfl) (by kernel_rfl) (fun _ _ _ h => h) (by rfl) ?_ (by assumption) ?_
  rotate_left
  · intro w hSw; (try dsimp only at hSw); go_simp; try with_reducible rfl
  simp only [List.setIfInBounds_toArray, List.set_cons_zero, List.set_cons_succ]
  refine take_yes (i := 8) (d := 106) (v := ?_) (fuel := 14) rfl rfl (by kernel_rfl) (by kernel_rfl) (by kernel_rfl) (fun _ _ _ h => h) (by rfl) ?_ (by assumption) ?_
  rotate_left
  · intro w hSw; (try dsimp only at hSw); go_simp; try with_reducible rfl
  simp only [List.setIfInBounds_toArray, List.set_cons_zero, List.set_cons_succ]
  refine take_yes (i := 9) (d := 107) (v := ?_) (fuel := 13) rfl rfl (by kernel_rfl) (by kernel_rfl) (by kernel_rfl) (fun _ _ _ h => h) (by rfl) ?_ (by assumption) ?_
  rotate_left
  · intro w hSw; (try dsimp only at hSw); go_simp; try with_reducible rfl
  simp only [List.setIfInBounds_toArray, List.set_cons_zero, List.set_cons_succ]
  refine take_yes (i := 10) (d := 108) (v := ?_) (fuel := 12) rfl rfl (by kernel_rfl) (by kernel_rfl) (by kernel_rfl) (fun _ _ _ h => h) (by rfl) ?_ (by assumption) ?_
  rotate_left
  · intro w hSw; (try dsimp only at hSw); go_simp; try with_reducible rfl
  simp only [List.setIfInBounds_toArray, List.set_cons_zero, List.set_cons_succ]
  refine wpAnyH_ready (rs := [11]) (by kernel_rfl) (by simp) ?_
  refine AllReadyH.cons rfl (fun K hK => ?_) AllReadyH.nil
  go_simp
  go_at_call 124
  refine (within_any _ _ _ _).mono ?_
  rintro _ _ ⟨rfl, rfl⟩
  rw [unhide HW]
  refine hK.out _ _ ?_ (fun hHeld => ?_)
  · simp [go_sem, cz, cy]
  clear hK K
  refine take_yes (i := 12) (d := 110) (v := ?_) (fuel := 10) rfl rfl (by kernel_rfl) (by kernel_rfl) (by kernel_rfl) (fun _ _ _ h => h) (by rfl) ?_ (by assumption) ?_
  rotate_left
  · intro w hSw; (try dsimp only at hSw); go_simp; try with_reducible rfl
  simp only [List.setIfInBounds_toArray, List.set_cons_zero, List.set_cons_succ]
  refine take_no (i := 13) (d := 111) (fuel := 9) rfl rfl (by kernel_rfl) (by kernel_rfl) (by kernel_rfl) (fun _ _ _ h => h) (by rfl) (by assumption) ?_
  simp only [List.setIfInBounds_toArray, List.set_cons_zero, List.set_cons_succ]
  refine take_no (i := 14) (d := 112) (fuel := 8) rfl rfl (by kernel_rfl) (by kernel_rfl) (by kernel_rfl) (fun _ _ _ h => h) (by rfl) (by assumption) ?_
  simp only [List.setIfInBounds_toArray, List.set_cons_zero, List.set_cons_succ]
  refine take_no (i := 15) (d := 113) (fuel := 7) rfl rfl (by kernel_rfl) (by kernel_rfl) (by kernel_rfl) (fun _ _ _ h => h) (by rfl) (by assumption) ?_
  simp only [List.setIfInBounds_toArray, List.set_cons_zero, List.set_cons_succ]
  refine take_no (i := 16) (d := 114) (fuel := 6) rfl rfl (by kernel_rfl) (by kernel_rfl) (by kernel_rfl) (fun _ _ _ h => h) (by rfl) (by assumption) ?_
  simp only [List.setIfInBounds_toArray, List.set_cons_zero, List.set_cons_succ]
  refine take_no (i := 17) (d := 115) (fuel := 5) rfl rfl (by kernel_rfl) (by kernel_rfl) (by kernel_rfl) (fun _ _ _ h => h) (by rfl) (by assumption) ?_
  simp only [List.setIfInBounds_toArray, List.set_cons_zero, List.set_cons_succ]
  refine take_no (i := 18) (d := 116) (fuel := 4) rfl rfl (by kernel_rfl) (by kernel_rfl) (by kernel_rfl) (fun _ _ _ h => h) (by rfl) (by assumption) ?_
  simp only [List.setIfInBounds_toArray, List.set_cons_zero, List.set_cons_succ]
  refine take_no (i := 19) (d := 117) (fuel := 3) rfl rfl (by kernel_rfl) (by kernel_rfl) (by kernel_rfl) (fun _ _ _ h => h) (by rfl) (by assumption) ?_
  simp only [List.setIfInBounds_toArray, List.set_cons_zero, List.set_cons_succ]
  refine take_yes (i := 20) (d := 118) (v := ?_) (fuel := 2) rfl rfl (by kernel_rfl) (by kernel_rfl) (by kernel_rfl) (fun _ _ _ h => h) (by rfl) ?_ (by assumption) ?_
  rotate_left
  · intro w hSw; (try dsimp only at hSw); go_simp; try with_reducible rfl
  simp only [List.setIfInBounds_toArray, List.set_cons_zero, List.set_cons_succ]
  refine wpAnyH_ready (rs := [21]) (by kernel_rfl) (by simp) ?_
  refine AllReadyH.cons rfl (fun K hK => ?_) AllReadyH.nil
  go_simp
  refine hK.out _ _ ?_ (fun hHeld => ?_)
  · simp [go_sem, cz, cy]
  clear hK K
  refine take_yes (i := 22) (d := 3) (v := ?_) (fuel := 0) rfl rfl (by kernel_rfl) (by kernel_rfl) (by kernel_rfl) (fun _ _ _ h => h) (by rfl) ?_ (by assumption) ?_
  rotate_left
  · intro w hSw; (try dsimp only at hSw); go_simp; try with_reducible rfl
  simp only [List.setIfInBounds_toArray, List.set_cons_zero, List.set_cons_succ]
  refine wpAnyH_done (by kernel_rfl) ?_ _
  go_wp2
  exact bodyPost_ret (v := .tuple #[.agg #[.int .i64 4, .int .i64 x, .int .i64 y, .slice none 0 0], .bool false]) (by simp [results, Tryz.results101, go_sem, r0, r1, r2, r3]) rfl (in_none (by rw [unhide HM, if_neg (by have := unhide HX; omega)]) (res_fr (unhide F1) _ _ _ _).drew)
end Go.Proofs.YtfmbebofllgmoaaGreatDoor
namespace Go.Proofs.YtfmbebofllgmoaaGreatDoor
open Go.RowKit
attribute [local go_sem ↓] Go.wp_at_zero Go.wp_at_succ
set_option maxHeartbeats 2000000 in
set_option maxRecDepth 20000 in
theorem input_kind (b : ByteArray) (h0 : 0 < b.size) (hs : b.size ≤ 40) (w : World) (ns : List Nat) (hv : varsM (b.extract 1 b.size) = some ns) (hk : byteAt b 0 < 1 ∨ 5 < byteAt b 0) : Calls Tryz.prog 101 #[.string b] w (InPost b w) := by
  have hse : (b.extract 1 b.size).size = b.size - 1 := by simp [ByteArray.size_extract]
  have HM : Hid (inpM b = none) := hide (by unfold inpM; rw [hv]; exact inpN_unfit (.inr (.inr (.inr (.inr (.inr (by omega)))))))
  have HV := hide hv
  have HC := hide fun w => varints_any (b.extract 1 b.size) (by omega) w
  rw [byteAt_eq b 0 h0] at hk
  have HK := hide hk
  clear hv hk
  go_enter Tryz.func101, Tryz.ntmps101
  go_upto_region 4 with (go_at_call 122; (refine (unhide HC _).mono ?_; rintro e w1 p1; obtain ⟨f1, hl1, v1, rfl, o1⟩ := vs_some p1 (unhide HV); have F1 := hide f1; obtain ⟨a1, c1, rfl⟩ := ownI_slice o1; rw [zs_len]; obtain ⟨⟨r0, r1, r2, r3⟩, rz⟩ := resB f1; clear p1 f1 o1))
  go_cut [6] (fun u wc => ∃ z : Int, u = .int .i64 z ∧ (z < 1 ∨ 5 < z) ∧ wc = w1)
  case first =>
    go_wp2
    go_meet
    exact ⟨_, rfl, by have := unhide HK; have hlt := UInt8.toNat_lt (b[0]'h0); have hw : wrap64 ((b[0]'h0).toNat : Int) = (b[0]'h0).toNat := (by simp only [wrap64]; omega); omega, rfl⟩
  case rest =>
    obtain ⟨z, rfl, hz, rfl⟩ := hcut
    have h1 : ¬ z = 1 := by omega
    have h2 : ¬ z = 2 := by omega
    have h3 : ¬ z = 3 := by omega
    have h4 : ¬ z = 4 := by omega
    have h5 : ¬ z = 5 := by omega
    clear hz
    go_wp2
    exact bodyPost_ret (v := .tuple #[.agg #[.int .i64 0, .int .i64 0, .int .i64 0, .slice none 0 0], .bool false]) (by simp [results, Tryz.results101, go_sem, r0, r1, r2, r3]) rfl (in_none (unhide HM) (res_fr (unhide F1) _ _ _ _))
end Go.Proofs.YtfmbebofllgmoaaGreatDoor
namespace Go.Proofs.YtfmbebofllgmoaaGreatDoor
open Go.RowKit
attribute [local go_sem ↓] Go.wp_at_zero Go.wp_at_succ

set_option maxHeartbeats 2000000 in
set_option maxRecDepth 20000 in
theorem input_pick_in (b : ByteArray) (h0 : 0 < b.size) (hs : b.size ≤ 40) (w : World) (x y : Nat) (hv : varsM (b.extract 1 b.size) = some [x, y]) (hk : byteAt b 0 = 3) (hx : 2 ≤ x ∧ x ≤ 8) : Calls Tryz.prog 101 #[.string b] w (InPost b w) := by
  have hse : (b.extract 1 b.size).size = b.size - 1 := by simp [ByteArray.size_extract]
  have HM : Hid (inpM b = if 2 ≤ x ∧ x ≤ 8 ∧ y < x then some (x, y, []) else none) := hide (by unfold inpM; rw [hv, hk]; rfl)
  have hb0 : ((b[0]'h0).toNat : Int) = 3 := by rw [← byteAt_eq b 0 h0, hk]; rfl
  have HK := hide hk
  have HV := hide hv
  have HC := hide fun w => varints_any (b.extract 1 b.size) (by omega) w
  clear hv
  go_enter Tryz.func101, Tryz.ntmps101
  go_wp2_with (go_at_call 122; (refine (unhide HC _).mono ?_; rintro e w1 p1; obtain ⟨f1, hl1, v1, rfl, o1⟩ := vs_some p1 (unhide HV); have F1 := hide f1; obtain ⟨g, cap, cur, rfl, hg1, hg2, hg3, hg4, hg5, hg6⟩ := ownI_parts o1 (by simp [zs]); have cz := hg6 0 (by simp [zs]); have cy := hg6 1 (by simp [zs]); simp only [zs, List.map_cons, List.map_nil, List.getD_cons_zero, List.getD_cons_succ, List.length_cons, List.length_nil, Int.ofNat_eq_natCast] at cz cy hg3 ⊢; have hg7 : w.heap.size < g := (by simp at hg1; omega); have hne : w.heap.size ≠ g := (by omega); clear hg1 hg2 hg4 hg5 cur hl1 hk; obtain ⟨⟨r0, r1, r2, r3⟩, rz⟩ := resB f1; clear p1 f1 o1 hg6))
  have hw : (decide ((2 : Int) ≤ x) && decide ((x : Int) ≤ 8)) = true := by simp; omega
  have HW := hide hw
  clear hw
  by_cases hy : (y : Int) < x
  · go_region_held3 (fun w' => w'.cell? ⟨g, 0, none⟩ = some (.int .i64 x) ∧ w'.cell? ⟨g, 1, none⟩ = some (.int .i64 y)) (simp [go_sem, cz, cy]) (first | (go_at_call 124; refine (within_any _ _ _ _).mono ?_; rintro _ _ ⟨rfl, rfl⟩; rw [unhide HW]))
    go_wp2
    exact bodyPost_ret (v := .tuple #[.agg #[.int .i64 3, .int .i64 x, .int .i64 y, .slice none 0 0], .bool true]) (by simp [results, Tryz.results101, go_sem, r0, r1, r2, r3]) rfl (in_some (o := x) (n := y) (fs := []) (by rw [unhide HM, if_pos (by omega)]) (by rw [unhide HK]; rfl) rfl rfl (World.ownsRow_nil _ _ _ _) (res_fr (unhide F1) _ _ _ _).drew)
  · go_region_held3 (fun w' => w'.cell? ⟨g, 0, none⟩ = some (.int .i64 x) ∧ w'.cell? ⟨g, 1, none⟩ = some (.int .i64 y)) (simp [go_sem, cz, cy]) (first | (go_at_call 124; refine (within_any _ _ _ _).mono ?_; rintro _ _ ⟨rfl, rfl⟩; rw [unhide HW]))
    go_wp2
    exact bodyPost_ret (v := .tuple #[.agg #[.int .i64 3, .int .i64 x, .int .i64 y, .slice none 0 0], .bool false]) (by simp [results, Tryz.results101, go_sem, r0, r1, r2, r3]; omega) rfl (in_none (by rw [unhide HM, if_neg (by omega)]) (res_fr (unhide F1) _ _ _ _).drew)


set_option maxHeartbeats 2000000 in
set_option maxRecDepth 20000 in
theorem input_lot_in (b : ByteArray) (h0 : 0 < b.size) (hs : b.size ≤ 40) (w : World) (x y : Nat) (hv : varsM (b.extract 1 b.size) = some [x, y]) (hk : byteAt b 0 = 4) (hx : 1 ≤ x ∧ x ≤ 1000000) : Calls Tryz.prog 101 #[.string b] w (InPost b w) := by
  have hse : (b.extract 1 b.size).size = b.size - 1 := by simp [ByteArray.size_extract]
  have HM : Hid (inpM b = if 1 ≤ x ∧ x ≤ 1000000 ∧ y < x then some (x, y, []) else none) := hide (by unfold inpM; rw [hv, hk]; rfl)
  have hb0 : ((b[0]'h0).toNat : Int) = 4 := by rw [← byteAt_eq b 0 h0, hk]; rfl
  have HK := hide hk
  have HV := hide hv
  have HC := hide fun w => varints_any (b.extract 1 b.size) (by omega) w
  clear hv
  go_enter Tryz.func101, Tryz.ntmps101
  go_wp2_with (go_at_call 122; (refine (unhide HC _).mono ?_; rintro e w1 p1; obtain ⟨f1, hl1, v1, rfl, o1⟩ := vs_some p1 (unhide HV); have F1 := hide f1; obtain ⟨g, cap, cur, rfl, hg1, hg2, hg3, hg4, hg5, hg6⟩ := ownI_parts o1 (by simp [zs]); have cz := hg6 0 (by simp [zs]); have cy := hg6 1 (by simp [zs]); simp only [zs, List.map_cons, List.map_nil, List.getD_cons_zero, List.getD_cons_succ, List.length_cons, List.length_nil, Int.ofNat_eq_natCast] at cz cy hg3 ⊢; have hg7 : w.heap.size < g := (by simp at hg1; omega); have hne : w.heap.size ≠ g := (by omega); clear hg1 hg2 hg4 hg5 cur hl1 hk; obtain ⟨⟨r0, r1, r2, r3⟩, rz⟩ := resB f1; clear p1 f1 o1 hg6))
  have hw : (decide ((1 : Int) ≤ x) && decide ((x : Int) ≤ 1000000)) = true := by simp; omega
  have HW := hide hw
  clear hw
  by_cases hy : (y : Int) < x
  · go_region_held3 (fun w' => w'.cell? ⟨g, 0, none⟩ = some (.int .i64 x) ∧ w'.cell? ⟨g, 1, none⟩ = some (.int .i64 y)) (simp [go_sem, cz, cy]) (first | (go_at_call 124; refine (within_any _ _ _ _).mono ?_; rintro _ _ ⟨rfl, rfl⟩; rw [unhide HW]))
    go_wp2
    exact bodyPost_ret (v := .tuple #[.agg #[.int .i64 4, .int .i64 x, .int .i64 y, .slice none 0 0], .bool true]) (by simp [results, Tryz.results101, go_sem, r0, r1, r2, r3]) rfl (in_some (o := x) (n := y) (fs := []) (by rw [unhide HM, if_pos (by omega)]) (by rw [unhide HK]; rfl) rfl rfl (World.ownsRow_nil _ _ _ _) (res_fr (unhide F1) _ _ _ _).drew)
  · go_region_held3 (fun w' => w'.cell? ⟨g, 0, none⟩ = some (.int .i64 x) ∧ w'.cell? ⟨g, 1, none⟩ = some (.int .i64 y)) (simp [go_sem, cz, cy]) (first | (go_at_call 124; refine (within_any _ _ _ _).mono ?_; rintro _ _ ⟨rfl, rfl⟩; rw [unhide HW]))
    go_wp2
    exact bodyPost_ret (v := .tuple #[.agg #[.int .i64 4, .int .i64 x, .int .i64 y, .slice none 0 0], .bool false]) (by simp [results, Tryz.results101, go_sem, r0, r1, r2, r3]; omega) rfl (in_none (by rw [unhide HM, if_neg (by omega)]) (res_fr (unhide F1) _ _ _ _).drew)
end Go.Proofs.YtfmbebofllgmoaaGreatDoor
namespace Go.Proofs.YtfmbebofllgmoaaGreatDoor
open Go.RowKit
attribute [local go_sem ↓] Go.wp_at_zero Go.wp_at_succ

theorem Fr.nil {w w' : World} {S' : Nat → Prop} (h : Fr (own (.slice none 0 0)) w w' S') : Fr (fun _ => False) w w' (fun _ => False) :=
  ⟨h.os, h.tape, h.output, h.size, fun k hk _ => h.same k hk (fun e => by simp [own, Value.ownBlock] at e), fun _ _ h => h⟩
theorem ownsRow_low {w : World} {B B' e size n : Nat} {v : Value} {xs : List Value} (h : w.ownsRow B e size v n xs) (hB : B' ≤ B) : w.ownsRow B' e size v n xs :=
  ⟨h.1, h.2.imp id fun ⟨g, cap, cur, e1, e2, r⟩ => ⟨g, cap, cur, e1, by omega, r⟩⟩
theorem step_grow_at {ops : Array Oper} {o : Oper} {a : Act} {K : Act → World → Prop} {Q : Exit → Act → World → Prop} {E' : Prop} {w : World} {B t e size bytes d : Nat} (hd : o.dst = some d) (E : Elem t e size bytes) (hs0 : 0 < size) (hs1 : bytes ≤ 100) {v : Value} {n m : Nat} {xs news : List Value} (hgd : o.guard = none) (sv xv : Operand)
    (ho : o.op = .call { callee := .builtin .append, args := #[sv, xv], argTypes := #[t, t] }) {ad : Addr} {cap : Nat} (hs : a.eval sv = v) (hx : a.eval xv = .slice (some ad) m cap) (hrow : w.ownsRow B e size v n xs) (hl : news.length = m * size)
    (hc : ∀ j u, news[j]? = some u → w.cell? (ad.add j) = some u) (h1 : ∀ u ∈ news, u.oneCell' = true) (hm : 0 < m) (hn : n + m ≤ 1000000) (hB : B ≤ w.heap.size)
    (h : ∀ v' w', w'.ownsRow B e size v' (n + m) (xs ++ news) → Fr (own v) w w' (own v') → (∃ a c, v' = .slice a (n + m) c) → K ⟨a.tmps.setIfInBounds d v', a.defers⟩ w') : if Region.wanted o (yielded ops a.tmps) = true then Oper.wp Tryz.prog o a w K Q else E' :=
  step_grow E hs0 hs1 hgd sv xv ho hs hx hrow hl hc h1 hm hn hB (fun v' w' p1 p2 p3 => by rw [hd]; exact h v' w' p1 p2 p3)

set_option maxHeartbeats 2000000 in
set_option maxRecDepth 20000 in
theorem input_batch_no (b : ByteArray) (h0 : 0 < b.size) (hs : b.size ≤ 40) (w : World) (x : Nat) (t : List Nat) (hv : varsM (b.extract 1 b.size) = some (x :: t)) (hk : byteAt b 0 = 2) (ht : 0 < t.length) (hx : x ≠ t.length) : Calls Tryz.prog 101 #[.string b] w (InPost b w) := by
  have hse : (b.extract 1 b.size).size = b.size - 1 := by simp [ByteArray.size_extract]
  have HM : Hid (inpM b = if x = t.length ∧ risL (-1) (zs t) = true then some (0, 0, t) else none) := hide (by unfold inpM; rw [hv, hk]; rfl)
  have hb0 : ((b[0]'h0).toNat : Int) = 2 := by rw [← byteAt_eq b 0 h0, hk]; rfl
  have HV := hide hv
  have HK := hide hk
  have HC := hide fun w => varints_any (b.extract 1 b.size) (by omega) w
  clear hv
  go_enter Tryz.func101, Tryz.ntmps101
  go_wp2_with (go_at_call 122; (refine (unhide HC _).mono ?_; rintro e w1 p1; obtain ⟨f1, hl1, v1, rfl, o1⟩ := vs_some p1 (unhide HV); have F1 := hide f1; obtain ⟨g, cap, cur, rfl, hg1, hg2, hg3, hg4, hg5, hg6⟩ := ownI_parts o1 (by simp [zs]); rw [zs_len] at hg3 ⊢; have hg7 : w.heap.size < g := (by simp at hg1; omega); have hne : w.heap.size ≠ g := (by omega); have HG6 := hide hg6; have hl2 : (x :: t).length = t.length + 1 := rfl; rw [hl2] at hg3 ⊢; have hl1' : t.length ≤ 100 := (by simp at hl1; omega); clear hg1 hg2 hg4 hg5 cur hl1 hk p1 f1 o1 hg6))
  have cz : w1.cell? ⟨g, 0, none⟩ = some (.int .i64 x) := unhide HG6 0 (by simp [zs])
  have hx1 : ((x : Int) == (t.length : Int)) = false := beq_eq_false_iff_ne.2 (by omega)
  have hgz : g < w1.heap.size := by
    obtain ⟨o, ho, _⟩ := cells_of_cell cz; exact (Array.getElem?_eq_some_iff.1 ho).1
  have hc1 : ¬ cap = 1 := by omega
  have hi1 : (1 : Int) ≤ (t.length : Int) + 1 := by omega
  have hwr : IntKind.i64.wrap (t.length : Int) = t.length := by rw [IntKind.wrap_i64]; omega
  have hw1 : w.heap.size ≤ w1.heap.size := by omega
  have HT := hide ht
  have HX := hide hx
  have HL := hide (show t.length ≤ 100 by omega)
  clear ht hx hl2
  refine wp_region_held_drew (S := fun w' => w'.cell? ⟨g, 0, none⟩ = some (.int .i64 x)) (by kernel_rfl) ?_ (fun hHeld => ?_)
  · simp [go_sem, cz]
  refine take_yes (i := 0) (d := 44) (v := ?_) (fuel := 18) rfl rfl (by kernel_rfl) (by kernel_rfl) (by kernel_rfl) (fun _ _ _ h => h) (by rfl) ?_ (by assumption) ?_
  rotate_left
  · intro w hSw; (try dsimp only at hSw); go_simp; try with_reducible rfl
  simp only [List.setIfInBounds_toArray, List.set_cons_zero, List.set_cons_succ]
  refine take_yes (i := 1) (d := 45) (v := ?_) (fuel := 17) rfl rfl (by kernel_rfl) (by kernel_rfl) (by kernel_rfl) (fun _ _ _ h => h) (by rfl) ?_ (by assumption) ?_
  rotate_left
  · intro w hSw; (try dsimp only at hSw); go_simp; try with_reducible rfl
  simp only [List.setIfInBounds_toArray, List.set_cons_zero, List.set_cons_succ]
  refine take_yes (i := 2) (d := 46) (v := ?_) (fuel := 16) rfl rfl (by kernel_rfl) (by kernel_rfl) (by kernel_rfl) (fun _ _ _ h => h) (by rfl) ?_ (by assumption) ?_
  rotate_left
  · intro w hSw; (try dsimp only at hSw); go_simp; try with_reducible rfl
  simp only [List.setIfInBounds_toArray, List.set_cons_zero, List.set_cons_succ]
  refine take_yes (i := 5) (d := 49) (v := ?_) (fuel := 15) rfl rfl (by kernel_rfl) (by kernel_rfl) (by kernel_rfl) (fun _ _ _ h => h) (by rfl) ?_ (by assumption) ?_
  rotate_left
  · intro w hSw; (try dsimp only at hSw); go_simp; try with_reducible rfl
  simp only [List.setIfInBounds_toArray, List.set_cons_zero, List.set_cons_succ]
  refine take_yes (i := 6) (d := 50) (v := ?_) (fuel := 14) rfl rfl (by kernel_rfl) (by kernel_rfl) (by kernel_rfl) (fun _ _ _ h => h) (by rfl) ?_ (by assumption) ?_
  rotate_left
  · intro w hSw; (try dsimp only at hSw); go_simp; try with_reducible rfl
  simp only [List.setIfInBounds_toArray, List.set_cons_zero, List.set_cons_succ]
  refine take_yes (i := 7) (d := 51) (v := ?_) (fuel := 13) rfl rfl (by kernel_rfl) (by kernel_rfl) (by kernel_rfl) (fun _ _ _ h => h) (by rfl) ?_ (by assumption) ?_
  rotate_left
  · intro w hSw; (try dsimp only at hSw); go_simp; try with_reducible rfl
  simp only [List.setIfInBounds_toArray, List.set_cons_zero, List.set_cons_succ]
  refine take_yes (i := 8) (d := 52) (v := ?_) (fuel := 12) rfl rfl (by kernel_rfl) (by kernel_rfl) (by kernel_rfl) (fun _ _ _ h => h) (by rfl) ?_ (by assumption) ?_
  rotate_left
  · intro w hSw; (try dsimp only at hSw); go_simp; try with_reducible rfl
  simp only [List.setIfInBounds_toArray, List.set_cons_zero, List.set_cons_succ]
  refine take_yes (i := 9) (d := 53) (v := ?_) (fuel := 11) rfl rfl (by kernel_rfl) (by kernel_rfl) (by kernel_rfl) (fun _ _ _ h => h) (by rfl) ?_ (by assumption) ?_
  rotate_left
  · intro w hSw; (try dsimp only at hSw); go_simp; try with_reducible rfl
  simp only [List.setIfInBounds_toArray, List.set_cons_zero, List.set_cons_succ]
  refine take_yes (i := 10) (d := 54) (v := ?_) (fuel := 10) rfl rfl (by kernel_rfl) (by kernel_rfl) (by kernel_rfl) (fun _ _ _ h => h) (by rfl) ?_ (by assumption) ?_
  rotate_left
  · intro w hSw; (try dsimp only at hSw); go_simp; try with_reducible rfl
  simp only [List.setIfInBounds_toArray, List.set_cons_zero, List.set_cons_succ]
  refine take_yes (i := 11) (d := 55) (v := ?_) (fuel := 9) rfl rfl (by kernel_rfl) (by kernel_rfl) (by kernel_rfl) (fun _ _ _ h => h) (by rfl) ?_ (by assumption) ?_
  rotate_left
  · intro w hSw; (try dsimp only at hSw); go_simp; try with_reducible rfl
  simp only [List.setIfInBounds_toArray, List.set_cons_zero, List.set_cons_succ]
  refine wpAnyH_ready (rs := [3]) (by kernel_rfl) (by simp) ?_
  refine AllReadyH.cons rfl (fun K hK => ?_) AllReadyH.nil
  refine step_grow_at (d := 47) rfl elemI (by decide) (by decide) (v := .slice none 0 0) (n := 0) (m := t.length) (xs := []) (news := (zs t).map (Value.int .i64)) (B := w1.heap.size) (ad := ⟨g, 1, none⟩) (cap := cap - 1) rfl (.const (.slice none 0 0)) (.tmp 46) rfl rfl rfl (World.ownsRow_nil _ _ _ _) (by simp [zs]) ?_ (by simp [Value.oneCell']) (unhide HT) (by omega) (Nat.le_refl _) ?_
  · intro j u hu
    rw [List.getElem?_map] at hu
    obtain ⟨z, hz, rfl⟩ := Option.map_eq_some_iff.1 hu
    have hj := (List.getElem?_eq_some_iff.1 hz).1
    rw [addr_add, Nat.add_comm 1 j]
    have := unhide HG6 (j + 1) (by simp [zs] at hj ⊢; omega)
    rw [show (zs (x :: t)).getD (j + 1) 0 = z by rw [show zs (x :: t) = (x : Int) :: zs t from rfl, List.getD_cons_succ, List.getD_eq_getElem?_getD, hz]; rfl] at this
    exact this
  intro v2 w2 o2 f2 hsl
  obtain ⟨a2, c2, rfl⟩ := hsl
  have F2 := hide ((unhide F1).drew.trans f2.nil)
  obtain ⟨⟨r0, r1, r2, r3⟩, rz⟩ := resB (unhide F2)
  have hc2 : ∀ j, w2.cell? ⟨g, j, none⟩ = w1.cell? ⟨g, j, none⟩ := fun j => f2.cell g j hgz (fun e => by simp [own, Value.ownBlock] at e)
  have HC2 := hide hc2
  have O2 := hide o2
  have hd2 : w2.cell? ⟨g, 0, none⟩ = some (.int .i64 x) := (hc2 0).trans cz
  clear o2 f2 hc2
  refine hK.out _ _ hd2 (fun hHeld => ?_)
  clear hK K
  simp only [List.setIfInBounds_toArray, List.set_cons_zero, List.set_cons_succ]
  refine take_yes (i := 4) (d := 48) (v := ?_) (fuel := 7) rfl rfl (by kernel_rfl) (by kernel_rfl) (by kernel_rfl) (fun _ _ _ h => h) (by rfl) ?_ (by assumption) ?_
  rotate_left
  · intro w hSw; (try dsimp only at hSw); go_simp; try with_reducible rfl
  simp only [List.setIfInBounds_toArray, List.set_cons_zero, List.set_cons_succ]
  refine take_yes (i := 12) (d := 56) (v := ?_) (fuel := 6) rfl rfl (by kernel_rfl) (by kernel_rfl) (by kernel_rfl) (fun _ _ _ h => h) (by rfl) ?_ (by assumption) ?_
  rotate_left
  · intro w hSw; (try dsimp only at hSw); go_simp; try with_reducible rfl
  simp only [List.setIfInBounds_toArray, List.set_cons_zero, List.set_cons_succ]
  refine take_no (i := 13) (d := 57) (fuel := 5) rfl rfl (by kernel_rfl) (by kernel_rfl) (by kernel_rfl) (fun _ _ _ h => h) (by rfl) (by assumption) ?_
  simp only [List.setIfInBounds_toArray, List.set_cons_zero, List.set_cons_succ]
  refine take_no (i := 14) (d := 58) (fuel := 4) rfl rfl (by kernel_rfl) (by kernel_rfl) (by kernel_rfl) (fun _ _ _ h => h) (by rfl) (by assumption) ?_
  simp only [List.setIfInBounds_toArray, List.set_cons_zero, List.set_cons_succ]
  refine take_no (i := 15) (d := 59) (fuel := 3) rfl rfl (by kernel_rfl) (by kernel_rfl) (by kernel_rfl) (fun _ _ _ h => h) (by rfl) (by assumption) ?_
  simp only [List.setIfInBounds_toArray, List.set_cons_zero, List.set_cons_succ]
  refine take_yes (i := 16) (d := 60) (v := ?_) (fuel := 2) rfl rfl (by kernel_rfl) (by kernel_rfl) (by kernel_rfl) (fun _ _ _ h => h) (by rfl) ?_ (by assumption) ?_
  rotate_left
  · intro w hSw; (try dsimp only at hSw); go_simp; try with_reducible rfl
  simp only [List.setIfInBounds_toArray, List.set_cons_zero, List.set_cons_succ]
  refine wpAnyH_ready (rs := [17]) (by kernel_rfl) (by simp) ?_
  refine AllReadyH.cons rfl (fun K hK => ?_) AllReadyH.nil
  go_simp
  refine hK.out _ _ ?_ (fun hHeld => ?_)
  · simp [go_sem, hd2]
  clear hK K
  refine take_yes (i := 18) (d := 3) (v := ?_) (fuel := 0) rfl rfl (by kernel_rfl) (by kernel_rfl) (by kernel_rfl) (fun _ _ _ h => h) (by rfl) ?_ (by assumption) ?_
  rotate_left
  · intro w hSw; (try dsimp only at hSw); go_simp; try with_reducible rfl
  simp only [List.setIfInBounds_toArray, List.set_cons_zero, List.set_cons_succ]
  refine wpAnyH_done (by kernel_rfl) ?_ _
  go_wp2
  exact bodyPost_ret (v := .tuple #[.agg #[.int .i64 2, .int .i64 0, .int .i64 0, .slice a2 t.length c2], .bool false]) (by simp [results, Tryz.results101, go_sem, r0, r1, r2, r3]) rfl (in_none (by rw [unhide HM, if_neg (fun h => unhide HX h.1)]) (res_fr (unhide F2) _ _ _ _))

set_option maxHeartbeats 2000000 in
set_option maxRecDepth 20000 in
theorem input_batch_yes (b : ByteArray) (h0 : 0 < b.size) (hs : b.size ≤ 40) (w : World) (x : Nat) (t : List Nat) (hv : varsM (b.extract 1 b.size) = some (x :: t)) (hk : byteAt b 0 = 2) (ht : 0 < t.length) (hx : x = t.length) : Calls Tryz.prog 101 #[.string b] w (InPost b w) := by
  have hse : (b.extract 1 b.size).size = b.size - 1 := by simp [ByteArray.size_extract]
  have HM : Hid (inpM b = if x = t.length ∧ risL (-1) (zs t) = true then some (0, 0, t) else none) := hide (by unfold inpM; rw [hv, hk]; rfl)
  have hb0 : ((b[0]'h0).toNat : Int) = 2 := by rw [← byteAt_eq b 0 h0, hk]; rfl
  have HV := hide hv
  have HK := hide hk
  have HC := hide fun w => varints_any (b.extract 1 b.size) (by omega) w
  clear hv
  go_enter Tryz.func101, Tryz.ntmps101
  go_wp2_with (go_at_call 122; (refine (unhide HC _).mono ?_; rintro e w1 p1; obtain ⟨f1, hl1, v1, rfl, o1⟩ := vs_some p1 (unhide HV); have F1 := hide f1; obtain ⟨g, cap, cur, rfl, hg1, hg2, hg3, hg4, hg5, hg6⟩ := ownI_parts o1 (by simp [zs]); rw [zs_len] at hg3 ⊢; have hg7 : w.heap.size < g := (by simp at hg1; omega); have hne : w.heap.size ≠ g := (by omega); have HG6 := hide hg6; have hl2 : (x :: t).length = t.length + 1 := rfl; rw [hl2] at hg3 ⊢; have hl1' : t.length ≤ 100 := (by simp at hl1; omega); clear hg1 hg2 hg4 hg5 cur hl1 hk p1 f1 o1 hg6))
  have cz : w1.cell? ⟨g, 0, none⟩ = some (.int .i64 x) := unhide HG6 0 (by simp [zs])
  have hx1 : ((x : Int) == (t.length : Int)) = true := beq_iff_eq.2 (by omega)
  obtain ⟨r, hr⟩ : ∃ r, risL (-1) (zs t) = r := ⟨_, rfl⟩
  have HR := hide hr
  clear hr
  have hgz : g < w1.heap.size := by
    obtain ⟨o, ho, _⟩ := cells_of_cell cz; exact (Array.getElem?_eq_some_iff.1 ho).1
  have hc1 : ¬ cap = 1 := by omega
  have hi1 : (1 : Int) ≤ (t.length : Int) + 1 := by omega
  have hwr : IntKind.i64.wrap (t.length : Int) = t.length := by rw [IntKind.wrap_i64]; omega
  have hw1 : w.heap.size ≤ w1.heap.size := by omega
  have HT := hide ht
  have HX := hide hx
  have HL := hide (show t.length ≤ 100 by omega)
  clear ht hx hl2
  refine wp_region_held_drew (S := fun w' => w'.cell? ⟨g, 0, none⟩ = some (.int .i64 x)) (by kernel_rfl) ?_ (fun hHeld => ?_)
  · simp [go_sem, cz]
  refine take_yes (i := 0) (d := 44) (v := ?_) (fuel := 18) rfl rfl (by kernel_rfl) (by kernel_rfl) (by kernel_rfl) (fun _ _ _ h => h) (by rfl) ?_ (by assumption) ?_
  rotate_left
  · intro w hSw; (try dsimp only at hSw); go_simp; try with_reducible rfl
  simp only [List.setIfInBounds_toArray, List.set_cons_zero, List.set_cons_succ]
  refine take_yes (i := 1) (d := 45) (v := ?_) (fuel := 17) rfl rfl (by kernel_rfl) (by kernel_rfl) (by kernel_rfl) (fun _ _ _ h => h) (by rfl) ?_ (by assumption) ?_
  rotate_left
  · intro w hSw; (try dsimp only at hSw); go_simp; try with_reducible rfl
  simp only [List.setIfInBounds_toArray, List.set_cons_zero, List.set_cons_succ]
  refine take_yes (i := 2) (d := 46) (v := ?_) (fuel := 16) rfl rfl (by kernel_rfl) (by kernel_rfl) (by kernel_rfl) (fun _ _ _ h => h) (by rfl) ?_ (by assumption) ?_
  rotate_left
  · intro w hSw; (try dsimp only at hSw); go_simp; try with_reducible rfl
  simp only [List.setIfInBounds_toArray, List.set_cons_zero, List.set_cons_succ]
  refine take_yes (i := 5) (d := 49) (v := ?_) (fuel := 15) rfl rfl (by kernel_rfl) (by kernel_rfl) (by kernel_rfl) (fun _ _ _ h => h) (by rfl) ?_ (by assumption) ?_
  rotate_left
  · intro w hSw; (try dsimp only at hSw); go_simp; try with_reducible rfl
  simp only [List.setIfInBounds_toArray, List.set_cons_zero, List.set_cons_succ]
  refine take_yes (i := 6) (d := 50) (v := ?_) (fuel := 14) rfl rfl (by kernel_rfl) (by kernel_rfl) (by kernel_rfl) (fun _ _ _ h => h) (by rfl) ?_ (by assumption) ?_
  rotate_left
  · intro w hSw; (try dsimp only at hSw); go_simp; try with_reducible rfl
  simp only [List.setIfInBounds_toArray, List.set_cons_zero, List.set_cons_succ]
  refine take_yes (i := 7) (d := 51) (v := ?_) (fuel := 13) rfl rfl (by kernel_rfl) (by kernel_rfl) (by kernel_rfl) (fun _ _ _ h => h) (by rfl) ?_ (by assumption) ?_
  rotate_left
  · intro w hSw; (try dsimp only at hSw); go_simp; try with_reducible rfl
  simp only [List.setIfInBounds_toArray, List.set_cons_zero, List.set_cons_succ]
  refine take_yes (i := 8) (d := 52) (v := ?_) (fuel := 12) rfl rfl (by kernel_rfl) (by kernel_rfl) (by kernel_rfl) (fun _ _ _ h => h) (by rfl) ?_ (by assumption) ?_
  rotate_left
  · intro w hSw; (try dsimp only at hSw); go_simp; try with_reducible rfl
  simp only [List.setIfInBounds_toArray, List.set_cons_zero, List.set_cons_succ]
  refine take_yes (i := 9) (d := 53) (v := ?_) (fuel := 11) rfl rfl (by kernel_rfl) (by kernel_rfl) (by kernel_rfl) (fun _ _ _ h => h) (by rfl) ?_ (by assumption) ?_
  rotate_left
  · intro w hSw; (try dsimp only at hSw); go_simp; try with_reducible rfl
  simp only [List.setIfInBounds_toArray, List.set_cons_zero, List.set_cons_succ]
  refine take_yes (i := 10) (d := 54) (v := ?_) (fuel := 10) rfl rfl (by kernel_rfl) (by kernel_rfl) (by kernel_rfl) (fun _ _ _ h => h) (by rfl) ?_ (by assumption) ?_
  rotate_left
  · intro w hSw; (try dsimp only at hSw); go_simp; try with_reducible rfl
  simp only [List.setIfInBounds_toArray, List.set_cons_zero, List.set_cons_succ]
  refine take_yes (i := 11) (d := 55) (v := ?_) (fuel := 9) rfl rfl (by kernel_rfl) (by kernel_rfl) (by kernel_rfl) (fun _ _ _ h => h) (by rfl) ?_ (by assumption) ?_
  rotate_left
  · intro w hSw; (try dsimp only at hSw); go_simp; try with_reducible rfl
  simp only [List.setIfInBounds_toArray, List.set_cons_zero, List.set_cons_succ]
  refine wpAnyH_ready (rs := [3]) (by kernel_rfl) (by simp) ?_
  refine AllReadyH.cons rfl (fun K hK => ?_) AllReadyH.nil
  refine step_grow_at (d := 47) rfl elemI (by decide) (by decide) (v := .slice none 0 0) (n := 0) (m := t.length) (xs := []) (news := (zs t).map (Value.int .i64)) (B := w1.heap.size) (ad := ⟨g, 1, none⟩) (cap := cap - 1) rfl (.const (.slice none 0 0)) (.tmp 46) rfl rfl rfl (World.ownsRow_nil _ _ _ _) (by simp [zs]) ?_ (by simp [Value.oneCell']) (unhide HT) (by omega) (Nat.le_refl _) ?_
  · intro j u hu
    rw [List.getElem?_map] at hu
    obtain ⟨z, hz, rfl⟩ := Option.map_eq_some_iff.1 hu
    have hj := (List.getElem?_eq_some_iff.1 hz).1
    rw [addr_add, Nat.add_comm 1 j]
    have := unhide HG6 (j + 1) (by simp [zs] at hj ⊢; omega)
    rw [show (zs (x :: t)).getD (j + 1) 0 = z by rw [show zs (x :: t) = (x : Int) :: zs t from rfl, List.getD_cons_succ, List.getD_eq_getElem?_getD, hz]; rfl] at this
    exact this
  intro v2 w2 o2 f2 hsl
  obtain ⟨a2, c2, rfl⟩ := hsl
  have F2 := hide ((unhide F1).drew.trans f2.nil)
  obtain ⟨⟨r0, r1, r2, r3⟩, rz⟩ := resB (unhide F2)
  have hc2 : ∀ j, w2.cell? ⟨g, j, none⟩ = w1.cell? ⟨g, j, none⟩ := fun j => f2.cell g j hgz (fun e => by simp [own, Value.ownBlock] at e)
  have HC2 := hide hc2
  have O2 := hide o2
  have hd2 : w2.cell? ⟨g, 0, none⟩ = some (.int .i64 x) := (hc2 0).trans cz
  clear o2 f2 hc2
  refine hK.out _ _ hd2 (fun hHeld => ?_)
  clear hK K
  simp only [List.setIfInBounds_toArray, List.set_cons_zero, List.set_cons_succ]
  refine take_yes (i := 4) (d := 48) (v := ?_) (fuel := 7) rfl rfl (by kernel_rfl) (by kernel_rfl) (by kernel_rfl) (fun _ _ _ h => h) (by rfl) ?_ (by assumption) ?_
  rotate_left
  · intro w hSw; (try dsimp only at hSw); go_simp; try with_reducible rfl
  simp only [List.setIfInBounds_toArray, List.set_cons_zero, List.set_cons_succ]
  refine take_yes (i := 12) (d := 56) (v := ?_) (fuel := 6) rfl rfl (by kernel_rfl) (by kernel_rfl) (by kernel_rfl) (fun _ _ _ h => h) (by rfl) ?_ (by assumption) ?_
  rotate_left
  · intro w hSw; (try dsimp only at hSw); go_simp; try with_reducible rfl
  simp only [List.setIfInBounds_toArray, List.set_cons_zero, List.set_cons_succ]
  have h123 : Calls Tryz.prog 123 #[.slice (some ⟨g, 1, none⟩) t.length (cap - 1)] w2 fun e w' => e = .returned (.bool (risL (-1) (zs t))) ∧ w2 = w' := by
    have h := rising_any (w := w2) (v := .slice (some ⟨g, 1, none⟩) (zs t).length (cap - 1)) (l := zs t) (P := fun _ => True) ⟨_, _, rfl, .inr ⟨g, 1, rfl, trivial, fun i hi => ?_⟩⟩ (by rw [zs_len]; omega)
    · rw [zs_len] at h; exact h.mono fun e w' q => ⟨q.1, q.2.symm⟩
    · rw [unhide HC2, Nat.add_comm 1 i]
      have := unhide HG6 (i + 1) (by simp [zs] at hi ⊢; omega)
      rw [this]
      simp [zs]
  have H123 := hide h123
  clear h123
  refine take_yes (i := 13) (d := 57) (v := ?_) (fuel := 5) rfl rfl (by kernel_rfl) (by kernel_rfl) (by kernel_rfl) (fun _ _ _ h => h) (by rfl) ?_ (by assumption) ?_
  rotate_left
  · intro w hSw; (try dsimp only at hSw); go_simp; try with_reducible rfl
  simp only [List.setIfInBounds_toArray, List.set_cons_zero, List.set_cons_succ]
  refine take_yes (i := 14) (d := 58) (v := ?_) (fuel := 4) rfl rfl (by kernel_rfl) (by kernel_rfl) (by kernel_rfl) (fun _ _ _ h => h) (by rfl) ?_ (by assumption) ?_
  rotate_left
  · intro w hSw; (try dsimp only at hSw); go_simp; try with_reducible rfl
  simp only [List.setIfInBounds_toArray, List.set_cons_zero, List.set_cons_succ]
  refine wpAnyH_ready (rs := [15]) (by kernel_rfl) (by simp) ?_
  refine AllReadyH.cons rfl (fun K hK => ?_) AllReadyH.nil
  go_simp
  go_at_call 123
  refine (unhide H123).mono ?_
  rintro _ _ ⟨rfl, rfl⟩
  rw [unhide HR]
  refine hK.out _ _ hd2 (fun hHeld => ?_)
  clear hK K
  refine take_yes (i := 16) (d := 60) (v := ?_) (fuel := 2) rfl rfl (by kernel_rfl) (by kernel_rfl) (by kernel_rfl) (fun _ _ _ h => h) (by rfl) ?_ (by assumption) ?_
  rotate_left
  · intro w hSw; (try dsimp only at hSw); go_simp; try with_reducible rfl
  simp only [List.setIfInBounds_toArray, List.set_cons_zero, List.set_cons_succ]
  refine wpAnyH_ready (rs := [17]) (by kernel_rfl) (by simp) ?_
  refine AllReadyH.cons rfl (fun K hK => ?_) AllReadyH.nil
  go_simp
  refine hK.out _ _ ?_ (fun hHeld => ?_)
  · simp [go_sem, hd2]
  clear hK K
  refine take_yes (i := 18) (d := 3) (v := ?_) (fuel := 0) rfl rfl (by kernel_rfl) (by kernel_rfl) (by kernel_rfl) (fun _ _ _ h => h) (by rfl) ?_ (by assumption) ?_
  rotate_left
  · intro w hSw; (try dsimp only at hSw); go_simp; try with_reducible rfl
  simp only [List.setIfInBounds_toArray, List.set_cons_zero, List.set_cons_succ]
  refine wpAnyH_done (by kernel_rfl) ?_ _
  go_wp2
  refine bodyPost_ret (v := .tuple #[.agg #[.int .i64 2, .int .i64 0, .int .i64 0, .slice a2 t.length c2], .bool r]) (by simp [results, Tryz.results101, go_sem, r0, r1, r2, r3]) rfl ?_
  have hm := unhide HM
  rw [unhide HR] at hm
  cases r with
  | false => exact in_none (by rw [hm, if_neg (by simp)]) (res_fr (unhide F2) _ _ _ _)
  | true =>
    refine in_some (o := 0) (n := 0) (fs := t) (by rw [hm, if_pos ⟨unhide HX, rfl⟩]) (by rw [unhide HK]; rfl) rfl rfl ?_ (res_fr (unhide F2) _ _ _ _)
    have h2 := unhide O2
    rw [Nat.zero_add, List.nil_append] at h2
    refine ownsRow_of_block (w := w2) (ownsRow_low (show OwnI w2 w1.heap.size (.slice a2 t.length c2) (zs t) by unfold OwnI; rw [zs_len]; exact h2) hw1) (fun q hq => ?_)
    have hq' := (World.ownsRow.lt h2 q hq).1
    have hne' : q ≠ w.heap.size := by omega
    rw [Below.heap_setCell _ _ _ _ hne', Below.heap_setCell _ _ _ _ hne', Below.heap_setCell _ _ _ _ hne', Below.heap_setCell _ _ _ _ hne']

set_option maxHeartbeats 2000000 in
set_option maxRecDepth 20000 in
theorem input_batch_nil (b : ByteArray) (h0 : 0 < b.size) (hs : b.size ≤ 40) (w : World) (x : Nat) (hv : varsM (b.extract 1 b.size) = some [x]) (hk : byteAt b 0 = 2) : Calls Tryz.prog 101 #[.string b] w (InPost b w) := by
  have hse : (b.extract 1 b.size).size = b.size - 1 := by simp [ByteArray.size_extract]
  have HM : Hid (inpM b = if x = 0 then some (0, 0, []) else none) := hide (by
    unfold inpM; rw [hv, hk]
    show (if x = 0 ∧ risL (-1) (zs []) = true then some (0, 0, []) else none) = _
    by_cases e : x = 0
    · rw [if_pos ⟨e, rfl⟩, if_pos e]
    · rw [if_neg (fun h => e h.1), if_neg e])
  have hb0 : ((b[0]'h0).toNat : Int) = 2 := by rw [← byteAt_eq b 0 h0, hk]; rfl
  have HV := hide hv
  have HK := hide hk
  have HC := hide fun w => varints_any (b.extract 1 b.size) (by omega) w
  clear hv
  go_enter Tryz.func101, Tryz.ntmps101
  go_wp2_with (go_at_call 122; (refine (unhide HC _).mono ?_; rintro e w1 p1; obtain ⟨f1, hl1, v1, rfl, o1⟩ := vs_some p1 (unhide HV); have F1 := hide f1; obtain ⟨g, cap, cur, rfl, hg1, hg2, hg3, hg4, hg5, hg6⟩ := ownI_parts o1 (by simp [zs]); have cz := hg6 0 (by simp [zs]); simp only [zs, List.map_cons, List.map_nil, List.getD_cons_zero, List.length_cons, List.length_nil, Int.ofNat_eq_natCast] at cz hg3 ⊢; have hg7 : w.heap.size < g := (by simp at hg1; omega); have hne : w.heap.size ≠ g := (by omega); clear hg1 hg2 hg4 hg5 cur hl1 hk; obtain ⟨⟨r0, r1, r2, r3⟩, rz⟩ := resB f1; clear p1 f1 o1 hg6))
  obtain ⟨ad, had⟩ : ∃ ad : Addr, (if cap = 1 then some (⟨g, 0, none⟩ : Addr) else some ⟨g, 1, none⟩) = some ad := by split <;> exact ⟨_, rfl⟩
  have hw0 : IntKind.i64.wrap 0 = 0 := rfl
  by_cases hx : x = 0
  · subst hx
    have h123 : Calls Tryz.prog 123 #[.slice (some ad) 0 (cap - 1)] w1.drew fun e w' => e = .returned (.bool true) ∧ w1.drew = w' :=
      (rising_any (w := w1.drew) (v := .slice (some ad) 0 (cap - 1)) (l := []) (P := fun _ => True) ⟨_, _, rfl, .inl rfl⟩ (by simp)).mono fun e w' q => ⟨q.1, q.2.symm⟩
    have H123 := hide h123
    clear h123
    refine wp_region_held_drew (S := fun w' => w'.cell? ⟨g, 0, none⟩ = some (.int .i64 (0 : Nat))) (by kernel_rfl) ?_ (fun hHeld => ?_)
    · exact cz
    refine take_yes (i := 0) (d := 44) (v := ?_) (fuel := 18) rfl rfl (by kernel_rfl) (by kernel_rfl) (by kernel_rfl) (fun _ _ _ h => h) (by rfl) ?_ (by assumption) ?_
    rotate_left
    · intro w hSw; (try dsimp only at hSw); go_simp; try with_reducible rfl
    simp only [List.setIfInBounds_toArray, List.set_cons_zero, List.set_cons_succ]
    refine take_yes (i := 1) (d := 45) (v := ?_) (fuel := 17) rfl rfl (by kernel_rfl) (by kernel_rfl) (by kernel_rfl) (fun _ _ _ h => h) (by rfl) ?_ (by assumption) ?_
    rotate_left
    · intro w hSw; (try dsimp only at hSw); go_simp; try with_reducible rfl
    simp only [List.setIfInBounds_toArray, List.set_cons_zero, List.set_cons_succ]
    refine take_yes (i := 2) (d := 46) (v := ?_) (fuel := 16) rfl rfl (by kernel_rfl) (by kernel_rfl) (by kernel_rfl) (fun _ _ _ h => h) (by rfl) ?_ (by assumption) ?_
    rotate_left
    · intro w hSw; (try dsimp only at hSw); go_simp; try with_reducible rfl
    simp only [List.setIfInBounds_toArray, List.set_cons_zero, List.set_cons_succ]
    refine take_yes (i := 5) (d := 49) (v := ?_) (fuel := 15) rfl rfl (by kernel_rfl) (by kernel_rfl) (by kernel_rfl) (fun _ _ _ h => h) (by rfl) ?_ (by assumption) ?_
    rotate_left
    · intro w hSw; (try dsimp only at hSw); go_simp; try with_reducible rfl
    simp only [List.setIfInBounds_toArray, List.set_cons_zero, List.set_cons_succ]
    refine take_yes (i := 6) (d := 50) (v := ?_) (fuel := 14) rfl rfl (by kernel_rfl) (by kernel_rfl) (by kernel_rfl) (fun _ _ _ h => h) (by rfl) ?_ (by assumption) ?_
    rotate_left
    · intro w hSw; (try dsimp only at hSw); go_simp; try with_reducible rfl
    simp only [List.setIfInBounds_toArray, List.set_cons_zero, List.set_cons_succ]
    refine take_yes (i := 7) (d := 51) (v := ?_) (fuel := 13) rfl rfl (by kernel_rfl) (by kernel_rfl) (by kernel_rfl) (fun _ _ _ h => h) (by rfl) ?_ (by assumption) ?_
    rotate_left
    · intro w hSw; (try dsimp only at hSw); go_simp; try with_reducible rfl
    simp only [List.setIfInBounds_toArray, List.set_cons_zero, List.set_cons_succ]
    refine take_yes (i := 8) (d := 52) (v := ?_) (fuel := 12) rfl rfl (by kernel_rfl) (by kernel_rfl) (by kernel_rfl) (fun _ _ _ h => h) (by rfl) ?_ (by assumption) ?_
    rotate_left
    · intro w hSw; (try dsimp only at hSw); go_simp; try with_reducible rfl
    simp only [List.setIfInBounds_toArray, List.set_cons_zero, List.set_cons_succ]
    refine take_yes (i := 9) (d := 53) (v := ?_) (fuel := 11) rfl rfl (by kernel_rfl) (by kernel_rfl) (by kernel_rfl) (fun _ _ _ h => h) (by rfl) ?_ (by assumption) ?_
    rotate_left
    · intro w hSw; (try dsimp only at hSw); go_simp; try with_reducible rfl
    simp only [List.setIfInBounds_toArray, List.set_cons_zero, List.set_cons_succ]
    refine take_yes (i := 10) (d := 54) (v := ?_) (fuel := 10) rfl rfl (by kernel_rfl) (by kernel_rfl) (by kernel_rfl) (fun _ _ _ h => h) (by rfl) ?_ (by assumption) ?_
    rotate_left
    · intro w hSw; (try dsimp only at hSw); go_simp; try with_reducible rfl
    simp only [List.setIfInBounds_toArray, List.set_cons_zero, List.set_cons_succ]
    refine take_yes (i := 11) (d := 55) (v := ?_) (fuel := 9) rfl rfl (by kernel_rfl) (by kernel_rfl) (by kernel_rfl) (fun _ _ _ h => h) (by rfl) ?_ (by assumption) ?_
    rotate_left
    · intro w hSw; (try dsimp only at hSw); go_simp; try with_reducible rfl
    simp only [List.setIfInBounds_toArray, List.set_cons_zero, List.set_cons_succ]
    refine wpAnyH_ready (rs := [3]) (by kernel_rfl) (by simp) ?_
    refine AllReadyH.cons rfl (fun K hK => ?_) AllReadyH.nil
    go_simp
    refine hK.out _ _ hHeld (fun hHeld => ?_)
    clear hK K
    refine take_yes (i := 4) (d := 48) (v := ?_) (fuel := 7) rfl rfl (by kernel_rfl) (by kernel_rfl) (by kernel_rfl) (fun _ _ _ h => h) (by rfl) ?_ (by assumption) ?_
    rotate_left
    · intro w hSw; (try dsimp only at hSw); go_simp; try with_reducible rfl
    simp only [List.setIfInBounds_toArray, List.set_cons_zero, List.set_cons_succ]
    refine take_yes (i := 12) (d := 56) (v := ?_) (fuel := 6) rfl rfl (by kernel_rfl) (by kernel_rfl) (by kernel_rfl) (fun _ _ _ h => h) (by rfl) ?_ (by assumption) ?_
    rotate_left
    · intro w hSw; (try dsimp only at hSw); go_simp; try with_reducible rfl
    simp only [List.setIfInBounds_toArray, List.set_cons_zero, List.set_cons_succ]
    refine take_yes (i := 13) (d := 57) (v := ?_) (fuel := 5) rfl rfl (by kernel_rfl) (by kernel_rfl) (by kernel_rfl) (fun _ _ _ h => h) (by rfl) ?_ (by assumption) ?_
    rotate_left
    · intro w hSw; (try dsimp only at hSw); go_simp; try with_reducible rfl
    simp only [List.setIfInBounds_toArray, List.set_cons_zero, List.set_cons_succ]
    refine take_yes (i := 14) (d := 58) (v := ?_) (fuel := 4) rfl rfl (by kernel_rfl) (by kernel_rfl) (by kernel_rfl) (fun _ _ _ h => h) (by rfl) ?_ (by assumption) ?_
    rotate_left
    · intro w hSw; (try dsimp only at hSw); go_simp; try with_reducible rfl
    simp only [List.setIfInBounds_toArray, List.set_cons_zero, List.set_cons_succ]
    refine wpAnyH_ready (rs := [15]) (by kernel_rfl) (by simp) ?_
    refine AllReadyH.cons rfl (fun K hK => ?_) AllReadyH.nil
    go_simp
    go_at_call 123
    refine (unhide H123).mono ?_
    rintro _ _ ⟨rfl, rfl⟩
    refine hK.out _ _ hHeld (fun hHeld => ?_)
    clear hK K
    refine take_yes (i := 16) (d := 60) (v := ?_) (fuel := 2) rfl rfl (by kernel_rfl) (by kernel_rfl) (by kernel_rfl) (fun _ _ _ h => h) (by rfl) ?_ (by assumption) ?_
    rotate_left
    · intro w hSw; (try dsimp only at hSw); go_simp; try with_reducible rfl
    simp only [List.setIfInBounds_toArray, List.set_cons_zero, List.set_cons_succ]
    refine wpAnyH_ready (rs := [17]) (by kernel_rfl) (by simp) ?_
    refine AllReadyH.cons rfl (fun K hK => ?_) AllReadyH.nil
    go_simp
    refine hK.out _ _ ?_ (fun hHeld => ?_)
    · simp [go_sem, cz]
    clear hK K
    refine take_yes (i := 18) (d := 3) (v := ?_) (fuel := 0) rfl rfl (by kernel_rfl) (by kernel_rfl) (by kernel_rfl) (fun _ _ _ h => h) (by rfl) ?_ (by assumption) ?_
    rotate_left
    · intro w hSw; (try dsimp only at hSw); go_simp; try with_reducible rfl
    simp only [List.setIfInBounds_toArray, List.set_cons_zero, List.set_cons_succ]
    refine wpAnyH_done (by kernel_rfl) ?_ _
    go_wp2
    exact bodyPost_ret (v := .tuple #[.agg #[.int .i64 2, .int .i64 0, .int .i64 0, .slice none 0 0], .bool true]) (by simp [results, Tryz.results101, go_sem, r0, r1, r2, r3]) rfl (in_some (o := 0) (n := 0) (fs := []) (by rw [unhide HM]; exact if_pos trivial) (by rw [unhide HK]; rfl) rfl rfl (World.ownsRow_nil _ _ _ _) (res_fr (unhide F1) _ _ _ _).drew)
  · have hx1 : ((x : Int) == 0) = false := beq_eq_false_iff_ne.2 (by omega)
    have HX := hide hx
    refine wp_region_held_drew (S := fun w' => w'.cell? ⟨g, 0, none⟩ = some (.int .i64 x)) (by kernel_rfl) ?_ (fun hHeld => ?_)
    · simp [go_sem, cz]
    refine take_yes (i := 0) (d := 44) (v := ?_) (fuel := 18) rfl rfl (by kernel_rfl) (by kernel_rfl) (by kernel_rfl) (fun _ _ _ h => h) (by rfl) ?_ (by assumption) ?_
    rotate_left
    · intro w hSw; (try dsimp only at hSw); go_simp; try with_reducible rfl
    simp only [List.setIfInBounds_toArray, List.set_cons_zero, List.set_cons_succ]
    refine take_yes (i := 1) (d := 45) (v := ?_) (fuel := 17) rfl rfl (by kernel_rfl) (by kernel_rfl) (by kernel_rfl) (fun _ _ _ h => h) (by rfl) ?_ (by assumption) ?_
    rotate_left
    · intro w hSw; (try dsimp only at hSw); go_simp; try with_reducible rfl
    simp only [List.setIfInBounds_toArray, List.set_cons_zero, List.set_cons_succ]
    refine take_yes (i := 2) (d := 46) (v := ?_) (fuel := 16) rfl rfl (by kernel_rfl) (by kernel_rfl) (by kernel_rfl) (fun _ _ _ h => h) (by rfl) ?_ (by assumption) ?_
    rotate_left
    · intro w hSw; (try dsimp only at hSw); go_simp; try with_reducible rfl
    simp only [List.setIfInBounds_toArray, List.set_cons_zero, List.set_cons_succ]
    refine take_yes (i := 5) (d := 49) (v := ?_) (fuel := 15) rfl rfl (by kernel_rfl) (by kernel_rfl) (by kernel_rfl) (fun _ _ _ h => h) (by rfl) ?_ (by assumption) ?_
    rotate_left
    · intro w hSw; (try dsimp only at hSw); go_simp; try with_reducible rfl
    simp only [List.setIfInBounds_toArray, List.set_cons_zero, List.set_cons_succ]
    refine take_yes (i := 6) (d := 50) (v := ?_) (fuel := 14) rfl rfl (by kernel_rfl) (by kernel_rfl) (by kernel_rfl) (fun _ _ _ h => h) (by rfl) ?_ (by assumption) ?_
    rotate_left
    · intro w hSw; (try dsimp only at hSw); go_simp; try with_reducible rfl
    simp only [List.setIfInBounds_toArray, List.set_cons_zero, List.set_cons_succ]
    refine take_yes (i := 7) (d := 51) (v := ?_) (fuel := 13) rfl rfl (by kernel_rfl) (by kernel_rfl) (by kernel_rfl) (fun _ _ _ h => h) (by rfl) ?_ (by assumption) ?_
    rotate_left
    · intro w hSw; (try dsimp only at hSw); go_simp; try with_reducible rfl
    simp only [List.setIfInBounds_toArray, List.set_cons_zero, List.set_cons_succ]
    refine take_yes (i := 8) (d := 52) (v := ?_) (fuel := 12) rfl rfl (by kernel_rfl) (by kernel_rfl) (by kernel_rfl) (fun _ _ _ h => h) (by rfl) ?_ (by assumption) ?_
    rotate_left
    · intro w hSw; (try dsimp only at hSw); go_simp; try with_reducible rfl
    simp only [List.setIfInBounds_toArray, List.set_cons_zero, List.set_cons_succ]
    refine take_yes (i := 9) (d := 53) (v := ?_) (fuel := 11) rfl rfl (by kernel_rfl) (by kernel_rfl) (by kernel_rfl) (fun _ _ _ h => h) (by rfl) ?_ (by assumption) ?_
    rotate_left
    · intro w hSw; (try dsimp only at hSw); go_simp; try with_reducible rfl
    simp only [List.setIfInBounds_toArray, List.set_cons_zero, List.set_cons_succ]
    refine take_yes (i := 10) (d := 54) (v := ?_) (fuel := 10) rfl rfl (by kernel_rfl) (by kernel_rfl) (by kernel_rfl) (fun _ _ _ h => h) (by rfl) ?_ (by assumption) ?_
    rotate_left
    · intro w hSw; (try dsimp only at hSw); go_simp; try with_reducible rfl
    simp only [List.setIfInBounds_toArray, List.set_cons_zero, List.set_cons_succ]
    refine take_yes (i := 11) (d := 55) (v := ?_) (fuel := 9) rfl rfl (by kernel_rfl) (by kernel_rfl) (by kernel_rfl) (fun _ _ _ h => h) (by rfl) ?_ (by assumption) ?_
    rotate_left
    · intro w hSw; (try dsimp only at hSw); go_simp; try with_reducible rfl
    simp only [List.setIfInBounds_toArray, List.set_cons_zero, List.set_cons_succ]
    refine wpAnyH_ready (rs := [3]) (by kernel_rfl) (by simp) ?_
    refine AllReadyH.cons rfl (fun K hK => ?_) AllReadyH.nil
    go_simp
    refine hK.out _ _ hHeld (fun hHeld => ?_)
    clear hK K
    refine take_yes (i := 4) (d := 48) (v := ?_) (fuel := 7) rfl rfl (by kernel_rfl) (by kernel_rfl) (by kernel_rfl) (fun _ _ _ h => h) (by rfl) ?_ (by assumption) ?_
    rotate_left
    · intro w hSw; (try dsimp only at hSw); go_simp; try with_reducible rfl
    simp only [List.setIfInBounds_toArray, List.set_cons_zero, List.set_cons_succ]
    refine take_yes (i := 12) (d := 56) (v := ?_) (fuel := 6) rfl rfl (by kernel_rfl) (by kernel_rfl) (by kernel_rfl) (fun _ _ _ h => h) (by rfl) ?_ (by assumption) ?_
    rotate_left
    · intro w hSw; (try dsimp only at hSw); go_simp; try with_reducible rfl
    simp only [List.setIfInBounds_toArray, List.set_cons_zero, List.set_cons_succ]
    refine take_no (i := 13) (d := 57) (fuel := 5) rfl rfl (by kernel_rfl) (by kernel_rfl) (by kernel_rfl) (fun _ _ _ h => h) (by rfl) (by assumption) ?_
    simp only [List.setIfInBounds_toArray, List.set_cons_zero, List.set_cons_succ]
    refine take_no (i := 14) (d := 58) (fuel := 4) rfl rfl (by kernel_rfl) (by kernel_rfl) (by kernel_rfl) (fun _ _ _ h => h) (by rfl) (by assumption) ?_
    simp only [List.setIfInBounds_toArray, List.set_cons_zero, List.set_cons_succ]
    refine take_no (i := 15) (d := 59) (fuel := 3) rfl rfl (by kernel_rfl) (by kernel_rfl) (by kernel_rfl) (fun _ _ _ h => h) (by rfl) (by assumption) ?_
    simp only [List.setIfInBounds_toArray, List.set_cons_zero, List.set_cons_succ]
    refine take_yes (i := 16) (d := 60) (v := ?_) (fuel := 2) rfl rfl (by kernel_rfl) (by kernel_rfl) (by kernel_rfl) (fun _ _ _ h => h) (by rfl) ?_ (by assumption) ?_
    rotate_left
    · intro w hSw; (try dsimp only at hSw); go_simp; try with_reducible rfl
    simp only [List.setIfInBounds_toArray, List.set_cons_zero, List.set_cons_succ]
    refine wpAnyH_ready (rs := [17]) (by kernel_rfl) (by simp) ?_
    refine AllReadyH.cons rfl (fun K hK => ?_) AllReadyH.nil
    go_simp
    refine hK.out _ _ ?_ (fun hHeld => ?_)
    · simp [go_sem, cz]
    clear hK K
    refine take_yes (i := 18) (d := 3) (v := ?_) (fuel := 0) rfl rfl (by kernel_rfl) (by kernel_rfl) (by kernel_rfl) (fun _ _ _ h => h) (by rfl) ?_ (by assumption) ?_
    rotate_left
    · intro w hSw; (try dsimp only at hSw); go_simp; try with_reducible rfl
    simp only [List.setIfInBounds_toArray, List.set_cons_zero, List.set_cons_succ]
    refine wpAnyH_done (by kernel_rfl) ?_ _
    go_wp2
    exact bodyPost_ret (v := .tuple #[.agg #[.int .i64 2, .int .i64 0, .int .i64 0, .slice none 0 0], .bool false]) (by simp [results, Tryz.results101, go_sem, r0, r1, r2, r3]) rfl (in_none (by rw [unhide HM, if_neg (unhide HX)]) (res_fr (unhide F1) _ _ _ _).drew)

/-- The reader's input, at every body of 1 to 40 bytes. -/
theorem input_any (b : ByteArray) (h0 : 0 < b.size) (hs : b.size ≤ 40) (w : World) : Calls Tryz.prog 101 #[.string b] w (InPost b w) := by
  cases hv : varsM (b.extract 1 b.size) with
  | none => exact input_bad b h0 hs w hv
  | some ns =>
    by_cases hk : byteAt b 0 < 1 ∨ 5 < byteAt b 0
    · exact input_kind b h0 hs w ns hv hk
    by_cases hu : Unfit (byteAt b 0) ns.length
    · exact input_unfit b h0 hs w ns hv hu (by omega)
    have hk' : byteAt b 0 = 1 ∨ byteAt b 0 = 2 ∨ byteAt b 0 = 3 ∨ byteAt b 0 = 4 ∨ byteAt b 0 = 5 := by omega
    unfold Unfit at hu
    rcases hk' with e | e | e | e | e
    · match ns, hv, hu with
      | [x], hv, _ => exact input_clock b h0 hs w x hv e
      | [], _, hu => exact absurd (.inl ⟨e, by simp⟩) hu
      | _ :: _ :: _, _, hu => exact absurd (.inl ⟨e, by simp⟩) hu
    · match ns, hv, hu with
      | [x], hv, _ => exact input_batch_nil b h0 hs w x hv e
      | x :: y :: r, hv, _ =>
        by_cases hx : x = (y :: r).length
        · exact input_batch_yes b h0 hs w x (y :: r) hv e (by simp) hx
        · exact input_batch_no b h0 hs w x (y :: r) hv e (by simp) hx
      | [], _, hu => exact absurd (.inr (.inl ⟨e, by simp⟩)) hu
    · match ns, hv, hu with
      | [x, y], hv, _ =>
        by_cases hx : 2 ≤ x ∧ x ≤ 8
        · exact input_pick_in b h0 hs w x y hv e hx
        · exact input_pick_out b h0 hs w x y hv e hx
      | [], _, hu => exact absurd (.inr (.inr (.inl ⟨e, by simp⟩))) hu
      | [_], _, hu => exact absurd (.inr (.inr (.inl ⟨e, by simp⟩))) hu
      | _ :: _ :: _ :: _, _, hu => exact absurd (.inr (.inr (.inl ⟨e, by simp⟩))) hu
    · match ns, hv, hu with
      | [x, y], hv, _ =>
        by_cases hx : 1 ≤ x ∧ x ≤ 1000000
        · exact input_lot_in b h0 hs w x y hv e hx
        · exact input_lot_out b h0 hs w x y hv e hx
      | [], _, hu => exact absurd (.inr (.inr (.inr (.inl ⟨e, by simp⟩)))) hu
      | [_], _, hu => exact absurd (.inr (.inr (.inr (.inl ⟨e, by simp⟩)))) hu
      | _ :: _ :: _ :: _, _, hu => exact absurd (.inr (.inr (.inr (.inl ⟨e, by simp⟩)))) hu
    · match ns, hv, hu with
      | [x], hv, _ => exact input_end b h0 hs w x hv e
      | [], _, hu => exact absurd (.inr (.inr (.inr (.inr (.inl ⟨e, by simp⟩))))) hu
      | _ :: _ :: _, _, hu => exact absurd (.inr (.inr (.inr (.inr (.inl ⟨e, by simp⟩))))) hu
end Go.Proofs.YtfmbebofllgmoaaGreatDoor
namespace Go.Proofs.YtfmbebofllgmoaaGreatDoor
open Go.RowKit
attribute [local go_sem ↓] Go.wp_at_zero Go.wp_at_succ

theorem toList_bs {a b : ByteArray} : a.toList = b.toList ↔ bs a = bs b := by
  rw [Go.ByteArray.toList_eq, Go.ByteArray.toList_eq]
  constructor
  · intro h; unfold bs; rw [h]
  · intro h; rw [bs_inj h]
/-- Is b the beginning of a? -/
def preB (a b : ByteArray) : Bool := decide (b.size ≤ a.size) && ((a.extract 0 b.size).toList == b.toList)
theorem preB_iff (a b : ByteArray) : preB a b = true ↔ bs b <+: bs a := by
  unfold preB
  rw [Bool.and_eq_true, decide_eq_true_eq, beq_iff_eq, toList_bs]
  constructor
  · rintro ⟨h1, h2⟩
    rw [← h2, bs_sub, List.drop_zero]
    exact List.take_prefix _ _
  · intro h
    have hl := h.length_le
    rw [bs_len, bs_len] at hl
    refine ⟨hl, ?_⟩
    rw [bs_sub, List.drop_zero, ← bs_len b]
    exact (List.prefix_iff_eq_take.1 h).symm
set_option maxRecDepth 20000 in
theorem hasPre_any (a b : ByteArray) (w : World) : Calls Tryz.prog 120 #[.string a, .string b] w fun e w' => e = .returned (.bool (preB a b)) ∧ w' = w := by
  by_cases h : b.size ≤ a.size
  · have hi : (b.size : Int) ≤ (a.size : Int) := by omega
    have e : preB a b = ((a.extract 0 b.size).toList == b.toList) := by unfold preB; simp [h]
    rw [e]
    go_enter Tryz.func120, Tryz.ntmps120
    go_wp2
    go_ret
    exact ⟨rfl, rfl⟩
  · have hi : ¬ (b.size : Int) ≤ (a.size : Int) := by omega
    have e : preB a b = false := by unfold preB; simp [h]
    rw [e]
    go_enter Tryz.func120, Tryz.ntmps120
    go_wp2
    go_ret
    exact ⟨rfl, rfl⟩
theorem hasPrefix_any (a b : ByteArray) (w : World) : Calls Tryz.prog 98 #[.string a, .string b] w fun e w' => e = .returned (.bool (preB a b)) ∧ w' = w := by
  have h := hasPre_any a b
  have H := hide h
  clear h
  generalize preB a b = r at *
  go_enter Tryz.func98, Tryz.ntmps98
  go_wp2_with (go_at_call 120; refine ((unhide H) _).mono ?_; rintro e w' ⟨rfl, rfl⟩)
  go_ret
  exact ⟨rfl, rfl⟩
def hd3S : ByteArray := ⟨#[82, 82, 49]⟩
theorem hd3S_bs : bs hd3S = hd3 := rfl
/-- The reader's beginning. -/
def begM (s : ByteArray) : Int × Int := if hd3 <+: bs s then (3, 0) else if bs s <+: hd3 then (0, 2) else (0, 4)
theorem begin_any (s : ByteArray) (w : World) : Calls Tryz.prog 58 #[.string s] w fun e w' => e = .returned (.tuple #[.int .i64 (begM s).1, .int .i64 (begM s).2]) ∧ w' = w := by
  have h1 := hasPrefix_any s hd3S
  have h2 := hasPrefix_any hd3S s
  have e1 := preB_iff s hd3S
  have e2 := preB_iff hd3S s
  rw [hd3S_bs] at e1 e2
  have H1 := hide h1
  have H2 := hide h2
  clear h1 h2
  unfold hd3S at H1 H2 e1 e2
  have HM : Hid (begM s = if hd3 <+: bs s then (3, 0) else if bs s <+: hd3 then (0, 2) else (0, 4)) := hide rfl
  generalize begM s = M at *
  cases hr1 : preB s ⟨#[82, 82, 49]⟩ with
  | true =>
    rw [hr1] at H1 e1
    have hp := e1.1 rfl
    have hm := unhide HM
    rw [if_pos hp] at hm
    subst hm
    clear e1 e2 hr1 HM hp
    go_enter Tryz.func58, Tryz.ntmps58
    go_wp2_with (go_at_call 98; refine ((unhide H1) _).mono ?_; rintro e w' ⟨rfl, rfl⟩)
    refine bodyPost_ret (v := .tuple #[.int .i64 3, .int .i64 0]) (by simp [results, Tryz.results58, go_sem]) rfl ⟨rfl, rfl⟩
  | false =>
    rw [hr1] at H1 e1
    have hp : ¬ hd3 <+: bs s := fun h => by have := e1.2 h; cases this
    have hm := unhide HM
    rw [if_neg hp] at hm
    cases hr2 : preB ⟨#[82, 82, 49]⟩ s with
    | true =>
      rw [hr2] at H2 e2
      rw [if_pos (e2.1 rfl)] at hm
      subst hm
      clear e1 e2 hr1 hr2 HM hp
      go_enter Tryz.func58, Tryz.ntmps58
      go_wp2_with fail
      go_at_call 98
      refine ((unhide H1) _).mono ?_
      rintro e w' ⟨rfl, rfl⟩
      go_wp2_with fail
      go_at_call 98
      refine ((unhide H2) _).mono ?_
      rintro e w' ⟨rfl, rfl⟩
      go_wp2
      refine bodyPost_ret (v := .tuple #[.int .i64 0, .int .i64 2]) (by simp [results, Tryz.results58, go_sem]) rfl ⟨rfl, rfl⟩
    | false =>
      rw [hr2] at H2 e2
      rw [if_neg (fun h => by have := e2.2 h; cases this)] at hm
      subst hm
      clear e1 e2 hr1 hr2 HM hp
      go_enter Tryz.func58, Tryz.ntmps58
      go_wp2_with fail
      go_at_call 98
      refine ((unhide H1) _).mono ?_
      rintro e w' ⟨rfl, rfl⟩
      go_wp2_with fail
      go_at_call 98
      refine ((unhide H2) _).mono ?_
      rintro e w' ⟨rfl, rfl⟩
      go_wp2
      refine bodyPost_ret (v := .tuple #[.int .i64 0, .int .i64 4]) (by simp [results, Tryz.results58, go_sem]) rfl ⟨rfl, rfl⟩
end Go.Proofs.YtfmbebofllgmoaaGreatDoor
