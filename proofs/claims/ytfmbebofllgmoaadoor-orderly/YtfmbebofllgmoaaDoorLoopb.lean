/-
  PROVED HERE: the loop's idle tells whether no timer is armed and no file is watched. the loop's ready keeps the files of a batch that are watched; pick hears nothing where there is no choice. slices.Delete of one element of a list of integers of the call's own. the loop's pick, over a source that keeps its word. what the numbers of a run keep while a handler runs; the model of waking the ready files. wakeReady wakes the ready files as the model (wkM) says, over a source that keeps its word.
-/
import Derived.Test.YtfmbebofllgmoaaDoorLoopa
import Derived.Deep.MidRow
import Derived.Deep.RegionLaw
import Derived.Lib.SliceRun
import Derived.Test.YtfmbebofllgmoaaDoorLoopd
namespace Go.Proofs.YtfmbebofllgmoaaDoor
open Go.RowKit

/-- The timers' cells. -/
def timL (t : Nat → TM) : List Value := (List.range 32).map fun j => timV (t (j / 4)) (j % 4)
theorem timL_get (t : Nat → TM) (i c : Nat) (hi : i < 8) (hc : c < 4) : (timL t)[i * 4 + c]? = some (timV (t i) c) := by
  have e : (i * 4 + c) / 4 = i := by omega
  have e' : (i * 4 + c) % 4 = c := by omega
  have e'' : i * 4 + c < 32 := by omega
  simp [timL, e'', e, e']
theorem timL_length (t : Nat → TM) : (timL t).length = 32 := by simp [timL]
theorem index_tim0 (t : Nat → TM) (w : World) : (Instr.index 75 (.agg (timL t).toArray) (.int .i64 0)).run Tryd.prog w = .ok (.agg #[.bool (t 0).1, .int .i64 (t 0).2.1, .int .i64 (t 0).2.2.1, .int .i64 (t 0).2.2.2]) w := by kernel_rfl
theorem index_tim1 (t : Nat → TM) (w : World) : (Instr.index 75 (.agg (timL t).toArray) (.int .i64 1)).run Tryd.prog w = .ok (.agg #[.bool (t 1).1, .int .i64 (t 1).2.1, .int .i64 (t 1).2.2.1, .int .i64 (t 1).2.2.2]) w := by kernel_rfl
theorem index_tim2 (t : Nat → TM) (w : World) : (Instr.index 75 (.agg (timL t).toArray) (.int .i64 2)).run Tryd.prog w = .ok (.agg #[.bool (t 2).1, .int .i64 (t 2).2.1, .int .i64 (t 2).2.2.1, .int .i64 (t 2).2.2.2]) w := by kernel_rfl
theorem index_tim3 (t : Nat → TM) (w : World) : (Instr.index 75 (.agg (timL t).toArray) (.int .i64 3)).run Tryd.prog w = .ok (.agg #[.bool (t 3).1, .int .i64 (t 3).2.1, .int .i64 (t 3).2.2.1, .int .i64 (t 3).2.2.2]) w := by kernel_rfl
theorem index_tim4 (t : Nat → TM) (w : World) : (Instr.index 75 (.agg (timL t).toArray) (.int .i64 4)).run Tryd.prog w = .ok (.agg #[.bool (t 4).1, .int .i64 (t 4).2.1, .int .i64 (t 4).2.2.1, .int .i64 (t 4).2.2.2]) w := by kernel_rfl
theorem index_tim5 (t : Nat → TM) (w : World) : (Instr.index 75 (.agg (timL t).toArray) (.int .i64 5)).run Tryd.prog w = .ok (.agg #[.bool (t 5).1, .int .i64 (t 5).2.1, .int .i64 (t 5).2.2.1, .int .i64 (t 5).2.2.2]) w := by kernel_rfl
theorem index_tim6 (t : Nat → TM) (w : World) : (Instr.index 75 (.agg (timL t).toArray) (.int .i64 6)).run Tryd.prog w = .ok (.agg #[.bool (t 6).1, .int .i64 (t 6).2.1, .int .i64 (t 6).2.2.1, .int .i64 (t 6).2.2.2]) w := by kernel_rfl
theorem index_tim7 (t : Nat → TM) (w : World) : (Instr.index 75 (.agg (timL t).toArray) (.int .i64 7)).run Tryd.prog w = .ok (.agg #[.bool (t 7).1, .int .i64 (t 7).2.1, .int .i64 (t 7).2.2.1, .int .i64 (t 7).2.2.2]) w := by kernel_rfl
theorem index_tim (t : Nat → TM) (i : Nat) (hi : i < 8) (w : World) : (Instr.index 75 (.agg (timL t).toArray) (.int .i64 (i : Int))).run Tryd.prog w = .ok (.agg #[.bool (t i).1, .int .i64 (t i).2.1, .int .i64 (t i).2.2.1, .int .i64 (t i).2.2.2]) w := by
  have hc : i = 0 ∨ i = 1 ∨ i = 2 ∨ i = 3 ∨ i = 4 ∨ i = 5 ∨ i = 6 ∨ i = 7 := by omega
  rcases hc with rfl | rfl | rfl | rfl | rfl | rfl | rfl | rfl
  · exact index_tim0 t w
  · exact index_tim1 t w
  · exact index_tim2 t w
  · exact index_tim3 t w
  · exact index_tim4 t w
  · exact index_tim5 t w
  · exact index_tim6 t w
  · exact index_tim7 t w
theorem info142 : (Tryd.prog.info? 75).map (·.size) = some 32 := by kernel_rfl

section
variable {σ : Type} {SA : (Nat → Prop) → World → σ → Prop} {B : Nat} {S T : Nat → Prop} {w : World} {b : Nat} {pv : Nat → Value} {vt : Value} {s : PS} {x : σ}
theorem RI.range (h : RI SA B S w b pv vt T s x) : w.rangeAt b 23 (timL s.tim) := by
  intro j v hv
  have hj : j < 32 := by
    have := (List.getElem?_eq_some_iff.1 hv).1
    simpa [timL_length] using this
  have e := timL_get s.tim (j / 4) (j % 4) (by omega) (by omega)
  rw [show j / 4 * 4 + j % 4 = j from by omega, hv] at e
  cases e
  have := h.cell (23 + j / 4 * 4 + j % 4) (by omega)
  rw [img_tim _ _ _ _ _ (by omega) (by omega)] at this
  rw [show 23 + j = 23 + j / 4 * 4 + j % 4 from by omega]
  exact this

/-- slices.Index of a slice of bools in the run struct: is one of them true? -/
def anyB (f : Nat → Bool) : Nat → Bool
  | 0 => false
  | n + 1 => anyB f n || f n
theorem anyB_false (f : Nat → Bool) (n : Nat) (h : ∀ i, i < n → f i = false) : anyB f n = false := by
  induction n with
  | zero => rfl
  | succ n ih => simp [anyB, ih (fun i hi => h i (by omega)), h n (by omega)]
theorem anyB_true (f : Nat → Bool) (n i : Nat) (hi : i < n) (h : f i = true) : anyB f n = true := by
  induction n with
  | zero => omega
  | succ n ih =>
    by_cases e : i = n
    · subst e; simp [anyB, h]
    · simp [anyB, ih (by omega)]

set_option maxHeartbeats 400000 in
theorem index_any (b : Nat) (f : Nat → Bool) (w : World) (hf : ∀ i, i < 8 → w.cell? ⟨b, 56 + i, none⟩ = some (.bool (f i))) :
    Calls Tryd.prog 49 #[.slice (some ⟨b, 56, none⟩) 8 8, .bool true] w fun e w' => (∃ k : Int, e = .returned (.int .i64 k) ∧ decide (0 ≤ k) = anyB f 8) ∧ w' = w := by
  have HF := hide hf
  clear hf
  go_enter Tryd.func49, Tryd.ntmps49
  go_wp2
  go_loop [8] (fun i => ∃ k : Nat, k ≤ 8 ∧ i = .int .i64 k ∧ Hid (∀ j, j < k → f j = false)) (fun i => 8 - (intOf i).toNat)
  case atStart => exact ⟨0, Nat.zero_le _, rfl, fun j hj => absurd hj (Nat.not_lt_zero _)⟩
  case round =>
    obtain ⟨k, hk, rfl, hno⟩ := hrel
    by_cases hlt : k < 8
    · have c := unhide HF k hlt
      cases hv : f k
      · rw [hv] at c
        go_wp2
        go_round
        case rel =>
          refine ⟨k + 1, by omega, by go_num, fun j hj => ?_⟩
          by_cases e : j = k
          · subst e; exact hv
          · exact unhide hno j (by omega)
        case measure => simp [intOf]; omega
      · rw [hv] at c
        go_wp2
        go_ret
        exact ⟨⟨k, rfl, by rw [anyB_true f 8 k hlt hv]; simp⟩, rfl⟩
    · have e := anyB_false f 8 (fun j hj => unhide hno j (by omega))
      have E := hide e
      clear e
      go_wp2
      go_ret
      exact ⟨⟨-1, rfl, by rw [unhide E]; simp⟩, rfl⟩

theorem contains_any (b : Nat) (f : Nat → Bool) (w : World) (hf : ∀ i, i < 8 → w.cell? ⟨b, 56 + i, none⟩ = some (.bool (f i))) :
    Calls Tryd.prog 43 #[.slice (some ⟨b, 56, none⟩) 8 8, .bool true] w fun e w' => e = .returned (.bool (anyB f 8)) ∧ w' = w := by
  have HI := hide (index_any b f w hf)
  clear hf
  go_enter Tryd.func43, Tryd.ntmps43
  go_wp2_with (go_at_call 49; refine (unhide HI).mono ?_; rintro e w' ⟨⟨k, rfl, hk⟩, rfl⟩)
  go_ret
  exact ⟨rfl, rfl⟩

def idleB (s : PS) : Bool := !anyB (fun i => (s.tim i).1) 8 && !anyB s.wat 8

set_option maxHeartbeats 1000000 in
theorem idle_any (L : SrcLaw SA) (h : RI SA B S w b pv vt T s x) :
    Calls Tryd.prog 34 #[.pointer (some ⟨b, 0, none⟩)] w fun e w' => e = .returned (.bool (idleB s)) ∧ RI SA B S w' b pv vt T s x ∧ Fr S w w' S := by
  have hra := hide h.range
  have hlen : (timL s.tim).length = 32 := timL_length _
  have hinf : (Tryd.prog.info? 75).map (·.size) = some (timL s.tim).length := by rw [hlen]; exact info142
  have hix := index_tim s.tim
  have H := hide h
  have HL := hide hinf
  have HX := hide hix
  clear h hinf hix hlen
  generalize hA : timL s.tim = A at *
  have HA := hide hA
  clear hA
  go_enter Tryd.func34, Tryd.ntmps34
  go_wp2_with (refine wpList_load_mid rfl 75 (.tmp 7) rfl b 23 rfl A _ (unhide hra) Tryd.underlying75 rfl (unhide HL) ?_)
  clear HL hra
  go_loopw [9] (fun i wr => ∃ k : Nat, k ≤ 8 ∧ i = .int .i64 k ∧ RI SA B S wr b pv vt T s x ∧ Fr S w wr S ∧ Hid (∀ j, j < k → (s.tim j).1 = false)) (fun i _ => 8 - (intOf i).toNat)
  case atStart => exact ⟨0, Nat.zero_le _, rfl, unhide H, Fr.refl S w, fun j hj => absurd hj (Nat.not_lt_zero _)⟩
  case round =>
    obtain ⟨k, hk, rfl, r1, r2, hno⟩ := hrel
    by_cases hlt : k < 8
    · have ix := fun w => (unhide HX) k hlt w
      have R1 := hide r1
      have R2 := hide r2
      clear r1 r2
      cases hv : (s.tim k).1
      · rw [hv] at ix
        generalize (s.tim k).2 = t2 at ix
        go_wp2
        go_roundw
        case rel =>
          refine ⟨k + 1, by omega, by go_num, (unhide R1).alloc L _, (unhide R2).alloc _, fun j hj => ?_⟩
          by_cases e : j = k
          · subst e; exact hv
          · exact unhide hno j (by omega)
        case measure => simp [intOf]; omega
      · have e : idleB s = false := by
          unfold idleB; rw [anyB_true (fun i => (s.tim i).1) 8 k hlt hv]; rfl
        rw [hv] at ix
        generalize (s.tim k).2 = t2 at ix
        have E := hide e
        clear e
        go_wp2
        go_ret
        exact ⟨ret_bool (unhide E).symm, (unhide R1).alloc L _, (unhide R2).alloc _⟩
    · have e : idleB s = !anyB s.wat 8 := by
        unfold idleB; rw [anyB_false (fun i => (s.tim i).1) 8 (fun j hj => unhide hno j (by omega))]; rfl
      have hc := contains_any b s.wat wr (fun i hi => (r1.cell (56 + i) (by omega)).trans (by rw [img_wat _ _ _ _ hi]))
      have HC := hide hc
      have E := hide e
      have R1 := hide r1
      have R2 := hide r2
      clear e hc r1 r2
      go_wp2_with (go_at_call 43; refine (unhide HC).mono ?_; rintro e w' ⟨rfl, hw'⟩; rw [hw']; clear hw')
      go_ret
      exact ⟨ret_bool (unhide E).symm, unhide R1, unhide R2⟩
end
end Go.Proofs.YtfmbebofllgmoaaDoor
namespace Go.Proofs.YtfmbebofllgmoaaDoor
open Go.RowKit
attribute [local go_sem ↓] Go.wp_at_zero Go.wp_at_succ

theorem info3 : ∃ i, Tryd.prog.info? 3 = some i ∧ i.zero = some (.int .i64 0) ∧ i.size = 1 ∧ i.bytes = 8 := by
  have h : (Tryd.prog.info? 3).map (fun i => (i.zero, i.size, i.bytes)) = some (some (.int .i64 0), 1, 8) := by kernel_rfl
  cases hi : Tryd.prog.info? 3 with
  | none => rw [hi] at h; cases h
  | some i =>
    rw [hi] at h
    simp only [Option.map_some, Option.some.injEq, Prod.mk.injEq] at h
    exact ⟨i, rfl, h.1, h.2.1, h.2.2⟩

/-- A list of integers of the call's own, all of its blocks from B on. -/
def OwnI (w : World) (B : Nat) (v : Value) (l : List Int) : Prop := w.ownsRow B 3 1 v l.length (l.map fun z => Value.int .i64 z)

theorem wpList_int {ops : Array Oper} {rest : List Oper} {o : Oper} {a : Act} {Q : Exit → Act → World → Prop} {w : World} {B : Nat} {v : Value} {l : List Int} (hgd : o.guard = none) (sv xv : Operand)
    (ho : o.op = .call { callee := .builtin .append, args := #[sv, xv], argTypes := #[22, 22] }) {z : Int}
    (hs : a.eval sv = v) (hx : a.eval xv = .slice (some ⟨w.heap.size, 0, none⟩) 1 1) (hrow : OwnI w B v l) (hn : l.length ≤ 1000) (hB : B ≤ w.heap.size)
    (h : ∀ v' w', OwnI w' B v' (l ++ [z]) → (w.alloc (.cells #[.int .i64 z] 3)).grownBy w' v.ownBlock → wpList Tryd.prog ops Q rest (a.put o.dst v') w') :
    wpList Tryd.prog ops Q (o :: rest) a (w.alloc (.cells #[.int .i64 z] 3)) := by
  obtain ⟨i, hi, hz, hs1, hby⟩ := info3
  have hb' : B ≤ (w.alloc (.cells #[.int .i64 z] 3)).heap.size := by simp; omega
  have hm : l.length + 1 ≤ maxLen := by simp only [maxLen]; omega
  have hby' : (l.length + 1) * 8 ≤ 140737488355328 := by omega
  have hone : ∀ u ∈ [Value.int .i64 z], u.oneCell' = true := by simp [Value.oneCell']
  have hsz : (w.alloc (.cells #[.int .i64 z] 3)).heap.size = w.heap.size + 1 := by simp
  refine wpList_append_lies _ hgd sv xv 22 ho B 3 i _ 1 8 Tryd.underlying22 hi hz hs1 hby rfl (by omega) v l.length _ hs (hrow.alloc _) ⟨w.heap.size, 0, none⟩ 1 1 [.int .i64 z] hx rfl
    (World.news_of_block (heap_alloc_new w _)) hone (by omega) hm hby' hb' (w.heap.size + 1) hsz ?_
  intro g cap w' h1 h2 _ _
  refine h _ w' ?_ h2
  unfold OwnI
  rw [List.length_append, List.map_append]
  exact h1

section
variable {σ : Type} {SA : (Nat → Prop) → World → σ → Prop} {ask : σ → Int → Int → Rep × σ} {may : Int → Int → Prop} {B : Nat} {S T : Nat → Prop} {w : World} {b : Nat} {pv : Nat → Value} {vt : Value} {s : PS} {x : σ}

theorem Fr.grown {S S' : Nat → Prop} {w w' w'' : World} {row : Option Nat} (h : Fr S w w' S') (hg : w'.grownBy w'' row) (hr : ∀ k, row = some k → w.heap.size ≤ k) : Fr S w w'' S' :=
  ⟨hg.os.trans h.os, hg.tape.trans h.tape, hg.output.trans h.output, Nat.le_trans h.size hg.size, fun k hk hn => (hg.block k (Nat.lt_of_lt_of_le hk h.size) (fun e => by have := hr k e.symm; omega)).trans (h.same k hk hn), h.old⟩
theorem RI.grown (L : SrcLaw SA) (h : RI SA B S w b pv vt T s x) {w' : World} {row : Option Nat} (hg : w.grownBy w' row) (hr : ∀ k, row = some k → ¬ S k) : RI SA B S w' b pv vt T s x :=
  h.kept L (fun k hk => hg.block k (h.bound k hk).2 (fun e => hr k e.symm hk)) hg.size

set_option maxHeartbeats 1000000 in
theorem ready_any (L : SrcLaw SA) (h : RI SA B S w b pv vt T s x) (v : Value) (l : List Int) (hl : IntsIn w v l (fun q => q < w.heap.size ∧ ¬ S q)) (h8 : l.length ≤ 8) (hf : ∀ z, z ∈ l → 0 ≤ z ∧ z < 8) :
    Calls Tryd.prog 45 #[.pointer (some ⟨b, 0, none⟩), v] w fun e w' => ∃ v', e = .returned v' ∧ OwnI w' w.heap.size v' (l.filter fun z => s.wat z.toNat) ∧ RI SA B S w' b pv vt T s x ∧ Fr S w w' S := by
  obtain ⟨a, c, rfl, hc⟩ := hl
  have hSz : ∀ k, S k → k < w.heap.size := fun k hk => (h.bound k hk).2
  have H := hide h
  have HC := hide hc
  have HF := hide hf
  have HZ := hide hSz
  clear h hc hf hSz
  go_enter Tryd.func45, Tryd.ntmps45
  go_wp2
  go_loopw [5, 10] (fun u i wr => ∃ k : Nat, k ≤ l.length ∧ i = .int .i64 k ∧ OwnI wr w.heap.size u ((l.take k).filter fun z => s.wat z.toNat) ∧ RI SA B S wr b pv vt T s x ∧ Fr S w wr S) (fun _ i _ => l.length - (intOf i).toNat)
  case atStart => exact ⟨0, Nat.zero_le _, rfl, World.ownsRow_nil _ _ _ _, unhide H, Fr.refl S w⟩
  case round =>
    obtain ⟨k, hk, rfl, ho, r1, r2⟩ := hrel
    by_cases hlt : k < l.length
    · rcases unhide HC with hz | ⟨q, off, rfl, ⟨q1, q2⟩, hcell⟩
      · rw [hz] at hlt; simp at hlt
      have cz := (r2.cell q (off + k) q1 q2).trans (hcell k hlt)
      have hget : l.getD k 0 = l[k] := by simp [List.getD, hlt]
      rw [hget] at cz
      obtain ⟨z0, z8⟩ := unhide HF l[k] (List.getElem_mem hlt)
      have htk : l.take (k + 1) = l.take k ++ [l[k]] := List.take_succ_eq_append_getElem hlt
      have cw := (r1.cell (56 + l[k].toNat) (by omega)).trans (by rw [img_wat _ _ _ _ (by omega)])
      have hfil : ((l.take (k + 1)).filter fun z => s.wat z.toNat) = ((l.take k).filter fun z => s.wat z.toNat) ++ (if s.wat l[k].toNat then [l[k]] else []) := by
        rw [htk, List.filter_append]; congr 1; simp [List.filter_cons]
      have hlen : ((l.take k).filter fun z => s.wat z.toNat).length ≤ 1000 := by
        have := List.length_filter_le (fun z => s.wat z.toNat) (l.take k)
        have := List.length_take_le k l
        omega
      have HO := hide ho
      have R1 := hide r1
      have R2 := hide r2
      have HFI := hide hfil
      have HLE := hide hlen
      have hsz : w.heap.size ≤ wr.heap.size := r2.size
      have HNE := hide (ho.lt)
      clear hcell ho r1 r2 hfil hlen htk hget
      generalize l[k] = z at *
      cases hwz : s.wat z.toNat
      · rw [hwz] at cw
        have HWZ := hide hwz
        clear hwz
        go_wp2
        go_roundw
        case rel =>
          refine ⟨k + 1, by omega, by go_num, ?_, unhide R1, unhide R2⟩
          rw [unhide HFI, unhide HWZ]
          simpa using unhide HO
        case measure => simp [intOf]; omega
      · rw [hwz] at cw
        have HWZ := hide hwz
        clear hwz
        go_wp2_with (at_builtin; refine wpList_int rfl (.tmp 20) (.tmp 22) rfl rfl rfl (unhide HO) (unhide HLE) hsz ?_; intro v' w' o' g')
        go_roundw
        case rel =>
          have hro : ∀ j, Value.ownBlock u5 = some j → w.heap.size ≤ j := fun j hj => ((unhide HNE) j hj).1
          refine ⟨k + 1, by omega, by go_num, ?_, ((unhide R1).alloc L _).grown L g' (fun j hj hs => ?_), ((unhide R2).alloc _).grown g' hro⟩
          · rw [unhide HFI, unhide HWZ]; simpa using o'
          · have h1 := hro j hj
            have h2 := unhide HZ j hs
            omega
        case measure => simp [intOf]; omega
    · go_wp2
      go_ret
      have e : l.take k = l := List.take_of_length_le (by omega)
      rw [e] at ho
      exact ⟨_, rfl, ho, r1, r2⟩
end
end Go.Proofs.YtfmbebofllgmoaaDoor
namespace Go.Proofs.YtfmbebofllgmoaaDoor
open Go.RowKit

theorem setCells_block (g e : Nat) (fr : Nat × Nat) : ∀ (vs : List Value) (o : Nat) (w : World) (cur : Array Value), w.heap[g]? = some (.cells cur e fr) →
    ∃ cur', (w.setCells g o vs).heap[g]? = some (.cells cur' e fr) ∧ cur'.size = cur.size
  | [], _, w, cur, h => ⟨cur, h, rfl⟩
  | v :: vs, o, w, cur, h => by
    have h1 : (w.setCell ⟨g, o, none⟩ v).heap[g]? = some (.cells (cur.setIfInBounds o v) e fr) := by
      have h0 : w.heap[g]? = some (.cells cur e fr) := h
      simp only [World.setCell, Array.getElem?_modify]
      rw [h0]
      simp
    obtain ⟨cur', h2, h3⟩ := setCells_block g e fr vs (o + 1) _ _ h1
    exact ⟨cur', h2, by simpa using h3⟩
theorem setCells_other (g : Nat) : ∀ (vs : List Value) (o : Nat) (w : World) (q : Nat), q ≠ g → (w.setCells g o vs).heap[q]? = w.heap[q]?
  | [], _, _, _, _ => rfl
  | _ :: vs, o, _, q, h => (setCells_other g vs (o + 1) _ q h).trans (Below.heap_setCell _ _ _ _ h)
theorem setCells_size (g : Nat) : ∀ (vs : List Value) (o : Nat) (w : World), (w.setCells g o vs).heap.size = w.heap.size ∧ (w.setCells g o vs).os = w.os ∧ (w.setCells g o vs).tape = w.tape ∧ (w.setCells g o vs).output = w.output
  | [], _, _ => ⟨rfl, rfl, rfl, rfl⟩
  | v :: vs, o, w => by
    obtain ⟨h1, h2, h3, h4⟩ := setCells_size g vs (o + 1) (w.setCell ⟨g, o, none⟩ v)
    exact ⟨h1.trans (by simp [World.setCell]), h2, h3, h4⟩

theorem ownI_of {w : World} {B g cap : Nat} {cur : Array Value} {l : List Int} (hb : w.heap[g]? = some (.cells cur 3 (0, 0))) (hs : cur.size = cap) (hB : B ≤ g) (hl : l.length ≤ cap) (hm : cap ≤ maxLen)
    (hc : ∀ j, j < l.length → w.cell? ⟨g, j, none⟩ = some (.int .i64 (l.getD j 0))) : OwnI w B (.slice (some ⟨g, 0, none⟩) l.length cap) l := by
  refine ⟨by simp, .inr ⟨g, cap, cur, rfl, hB, hb, hl, hm, by omega, ?_⟩⟩
  apply List.ext_getElem?
  intro j
  by_cases hj : j < l.length
  · have h1 := hc j hj
    rw [cell_of_row w g j cur 3 (0, 0) hb] at h1
    rw [List.getElem?_take]
    simp only [Nat.mul_one, hj, if_true]
    rw [Array.getElem?_toList, h1]
    simp [List.getD, hj]
  · rw [List.getElem?_eq_none (by simp; omega), List.getElem?_eq_none (by simp; omega)]

theorem ownI_parts {w : World} {B : Nat} {v : Value} {l : List Int} (h : OwnI w B v l) (hl : 0 < l.length) : ∃ g cap cur, v = .slice (some ⟨g, 0, none⟩) l.length cap ∧ B ≤ g ∧ w.heap[g]? = some (.cells cur 3 (0, 0)) ∧ l.length ≤ cap ∧ cap ≤ maxLen ∧ cur.size = cap ∧
    (∀ j, j < l.length → w.cell? ⟨g, j, none⟩ = some (.int .i64 (l.getD j 0))) := by
  rcases h.2 with ⟨_, h0⟩ | ⟨g, cap, cur, hv, hB, hg, h1, h2, h3, h4⟩
  · omega
  refine ⟨g, cap, cur, hv, hB, hg, h1, h2, by omega, fun j hj => ?_⟩
  rw [cell_of_row w g j cur 3 (0, 0) hg]
  have h5 := congrArg (fun q : List Value => q[j]?) h4
  simp only [List.getElem?_take, Nat.mul_one, hj, if_true, Array.getElem?_toList] at h5
  rw [h5]
  simp [List.getD, hj]

/-- The cells that are moved one to the left. -/
def movedI (l : List Int) (k : Nat) : List Value := (l.drop (k + 1)).map (Value.int .i64)
theorem movedI_length (l : List Int) (k : Nat) : (movedI l k).length = l.length - (k + 1) := by simp [movedI]
theorem movedI_get (l : List Int) (k j : Nat) (hj : j < l.length - (k + 1)) : (movedI l k)[j]? = some (.int .i64 (l.getD (k + 1 + j) 0)) := by
  simp [movedI, List.getD, show k + 1 + j < l.length by omega]
theorem zero3 (w : World) : (zeroValue 3).run Tryd.prog w = .ok (.int .i64 0) w := by kernel_rfl

theorem frozen_row {w : World} {g : Nat} {cur : Array Value} (hb : w.heap[g]? = some (.cells cur 3 (0, 0))) (j : Nat) : w.frozen? ⟨g, j, none⟩ = false := by simp [World.frozen?, hb]

/-- What delete leaves in memory. -/
theorem delete_world {w : World} {g cap k r : Nat} {cur : Array Value} {l : List Int} (hb : w.heap[g]? = some (.cells cur 3 (0, 0))) (hs : cur.size = cap) (hL : l.length = k + 1 + r)
    (hc : ∀ j, j < l.length → w.cell? ⟨g, j, none⟩ = some (.int .i64 (l.getD j 0))) : ∀ W1, w.drew.setCells g k (movedI l k) = W1 →
    (∃ cur', (W1.setCells g (k + r) [.int .i64 0]).heap[g]? = some (.cells cur' 3 (0, 0)) ∧ cur'.size = cap) ∧
    (W1.cell? ⟨g, k + r, none⟩).isSome = true ∧ W1.frozen? ⟨g, k + r, none⟩ = false ∧
    (∀ j, j < (l.eraseIdx k).length → (W1.setCells g (k + r) [.int .i64 0]).cell? ⟨g, j, none⟩ = some (.int .i64 ((l.eraseIdx k).getD j 0))) ∧
    w.grownBy (W1.setCells g (k + r) [.int .i64 0]) (some g) := by
  rintro W1 rfl
  have hml : (movedI l k).length = r := by rw [movedI_length, hL]; omega
  obtain ⟨c1, hc1, hs1⟩ := setCells_block g 3 (0, 0) (movedI l k) k w.drew cur hb
  obtain ⟨c2, hc2, hs2⟩ := setCells_block g 3 (0, 0) [.int .i64 0] (k + r) _ _ hc1
  have hsome : ∀ j, j < (movedI l k).length → (w.drew.cell? ⟨g, k + j, none⟩).isSome = true := fun j hj => by
    show (w.cell? _).isSome = true
    rw [hc (k + j) (by omega)]; rfl
  refine ⟨⟨c2, hc2, by omega⟩, ?_, ?_, ?_, ?_⟩
  · rw [World.cell?_setCells_out g _ _ _ _ (fun _ _ => Or.inr (by show k + (movedI l k).length ≤ k + r; omega))]
    show (w.cell? _).isSome = true
    rw [hc (k + r) (by omega)]; rfl
  · rw [World.frozen?_setCells]
    exact frozen_row (w := w.drew) hb _
  · intro j hj
    rw [List.length_eraseIdx_of_lt (by omega)] at hj
    rw [World.cell?_setCells_out g _ _ _ _ (fun _ _ => Or.inl (by show j < k + r; omega))]
    by_cases hk : j < k
    · rw [World.cell?_setCells_out g _ _ _ _ (fun _ _ => Or.inl (by show j < k; omega))]
      refine (hc j (by omega)).trans ?_
      simp [List.getD, List.getElem?_eraseIdx, hk]
    · have h1 := World.cell?_setCells_in g (movedI l k) k w.drew hsome (j - k) (by omega)
      rw [show k + (j - k) = j by omega] at h1
      rw [h1, ← List.getElem?_eq_getElem (by omega), movedI_get l k (j - k) (by omega)]
      simp only [List.getD, List.getElem?_eraseIdx, hk, if_false, show k + 1 + (j - k) = j + 1 by omega]
  · obtain ⟨a1, a2, a3, a4⟩ := setCells_size g (movedI l k) k w.drew
    obtain ⟨b1, b2, b3, b4⟩ := setCells_size g [.int .i64 0] (k + r) (w.drew.setCells g k (movedI l k))
    exact ⟨b2.trans (a2.trans rfl), b3.trans (a3.trans rfl), b4.trans (a4.trans rfl), Nat.le_of_eq (b1.trans a1).symm, fun q _ hq =>
      (setCells_other g _ _ _ q (fun e => hq (congrArg some e))).trans ((setCells_other g _ _ _ q (fun e => hq (congrArg some e))).trans rfl)⟩

set_option maxHeartbeats 2000000 in
set_option maxRecDepth 100000 in
theorem delete_any {w : World} {B : Nat} {v : Value} {l : List Int} (h : OwnI w B v l) (k r : Nat) (hL : l.length = k + 1 + r) :
    Calls Tryd.prog 47 #[v, .int .i64 k, .int .i64 ((k : Int) + 1)] w fun e w' => ∃ v', e = .returned v' ∧ OwnI w' B v' (l.eraseIdx k) ∧ w.grownBy w' v.ownBlock ∧ v'.ownBlock = v.ownBlock := by
  obtain ⟨g, cap, cur, rfl, hB, hg, hl, hm, hs, hc⟩ := ownI_parts h (by omega)
  obtain ⟨i0, hi0, hz0, hz1, hz2⟩ := info3
  have hfr := fun j => frozen_row hg j
  obtain ⟨A, hA, hnews⟩ : ∃ A : Addr, (if cap = k + 1 then some (⟨g, 0, none⟩ : Addr) else some ⟨g, k + 1, none⟩) = some A ∧ Hid (∀ j u, (movedI l k)[j]? = some u → w.drew.cell? (A.add j) = some u) := by
    by_cases e : cap = k + 1
    · refine ⟨⟨g, 0, none⟩, by simp [e], fun j u hu => ?_⟩
      have h0 : (movedI l k).length = 0 := by rw [movedI_length]; omega
      rw [List.length_eq_zero_iff.1 h0] at hu
      simp at hu
    · refine ⟨⟨g, k + 1, none⟩, by simp [e], fun j u hu => ?_⟩
      have hj : j < l.length - (k + 1) := by
        have := (List.getElem?_eq_some_iff.1 hu).1
        rwa [movedI_length] at this
      rw [movedI_get l k j hj] at hu
      rw [Addr.add_lit]
      exact (hc (k + 1 + j) (by omega)).trans hu
  have s1 : Hid ((movedI l k).length = r * 1) := by show (movedI l k).length = r * 1; rw [Nat.mul_one, movedI_length l k, hL]; omega
  have s2 : Hid (∀ u ∈ movedI l k, u.oneCell' = true) := by
    intro u hu
    obtain ⟨x, _, rfl⟩ := List.mem_map.1 hu
    rfl
  have s3 : Hid (∀ j, j < (movedI l k).length → (w.drew.cell? ⟨g, 0 + k * 1 + j, none⟩).isSome = true ∧ w.drew.frozen? ⟨g, 0 + k * 1 + j, none⟩ = false) := by
    intro j hj
    rw [movedI_length] at hj
    rw [Nat.mul_one, Nat.zero_add]
    exact ⟨by show (w.cell? _).isSome = true; rw [hc (k + j) (by omega)]; rfl, hfr (k + j)⟩
  have HI := hide hi0
  have HC := hide hc
  have HG := hide hg
  have HM := hide hm
  have HL := hide hL
  have HS := hide hs
  rw [hL]
  rw [hL] at hl
  have hic : k ≤ cap := by omega
  have hp0 : (0 : Int) ≤ (k : Int) + 1 := by omega
  have hp1 : (k : Int) + 1 ≤ ((k + 1 + r : Nat) : Int) := by omega
  have hp2 : ((k : Int) + 1).toNat = k + 1 := by omega
  have hp3 : ((k + 1 + r : Nat) : Int) ≤ (cap : Int) := by omega
  have hp4 : (k : Int) ≤ (k : Int) + 1 := by omega
  have hp6 : (k : Int) + 1 ≤ (k : Int) + 1 + (r : Int) := by omega
  have hp7 : (k : Int) + 1 + (r : Int) ≤ (cap : Int) := by omega
  have hp5 : k + r ≤ k + 1 + r := by omega
  have hne : ((k : Int) == (k : Int) + 1) = false := by simp; omega
  clear hc h hi0 hz0 hg hm hfr hL hs
  go_enter Tryd.func47, Tryd.ntmps47
  go_wp2_with fail
  go_region_law (refine step_append_room rfl (.tmp 22) (.tmp 25) 22 rfl 3 i0 1 Tryd.underlying22 (HI.out) hz1 g 0 k cap (by simp [Act.eval, Act.put]) A r (cap-(k+1)) (movedI l k) (by simp [Act.eval, Act.put]) s1.out hnews.out s2.out (by omega) s3.out ?_)
  generalize hW1 : w.drew.setCells g k (movedI l k) = W1
  have DW := hide (delete_world HG.out HS.out HL.out HC.out W1 hW1)
  clear hW1
  have hclear : (Builtin.clear_ #[22] 0 #[.slice (some ⟨g, k + r, none⟩) 1 (cap - (k + r))]).run Tryd.prog W1 = .ok (.tuple #[]) (W1.setCells g (k + r) [.int .i64 0]) := by
    refine Go.Lib.run_clear_slice W1 22 3 0 (.int .i64 0) Tryd.underlying22 zero3 rfl rfl g (k + r) 1 (cap - (k + r)) (by omega) ?_ ?_
    · intro j hj
      obtain rfl : j = 0 := by omega
      exact DW.out.2.1
    · intro j hj
      obtain rfl : j = 0 := by omega
      exact DW.out.2.2.1
  have hq0 : (0 : Int) ≤ (k : Int) + r := by omega
  have hq1 : (k : Int) + r ≤ (k : Int) + 1 + r := by omega
  have hq2 : ((k : Int) + r).toNat = k + r := by omega
  have hq3 : k + 1 + r - (k + r) = 1 := by omega
  have hq4 : (cap = k + r) = False := by simp; omega
  have hq5 : ((k : Int) + 1 + r).toNat = k + 1 + r := by omega
  go_wp2_with fail
  obtain ⟨⟨c2, d1, d2⟩, _, _, d3, d4⟩ := DW.out
  have hE : (l.eraseIdx k).length = k + r := by rw [List.length_eraseIdx_of_lt (by have := HL.out; omega), HL.out]; omega
  go_ret
  refine ⟨_, rfl, ?_, d4, rfl⟩
  have h9 := ownI_of d1 d2 hB (by omega) HM.out d3
  rwa [hE] at h9
end Go.Proofs.YtfmbebofllgmoaaDoor
namespace Go.Proofs.YtfmbebofllgmoaaDoor
open Go.RowKit
attribute [local go_sem ↓] Go.wp_at_zero Go.wp_at_succ

/-- What is heard of one question. -/
def hdS (s : PS) (R : Rep) : PS := if R.e = 0 then { s with heard := wrap64 (s.heard + 1) } else { s with fin := R.e }

section
variable {σ : Type} {SA : (Nat → Prop) → World → σ → Prop} {ask : σ → Int → Int → Rep × σ} {may : Int → Int → Prop} {B : Nat} {S T : Nat → Prop} {w : World} {b : Nat} {pv : Nat → Value} {vt : Value} {s : PS} {x : σ}

theorem pick_one {w : World} {v : Value} : Calls Tryd.prog 46 #[v, .int .i64 1] w fun e w' => e = .returned (.tuple #[.int .i64 0, .bool true]) ∧ w' = w := by
  go_enter Tryd.func46, Tryd.ntmps46
  go_wp2
  refine bodyPost_ret (v := .tuple #[.int .i64 0, .bool true]) (by simp [results, Tryd.results46, go_sem]) rfl ?_
  exact ⟨rfl, rfl⟩

set_option maxHeartbeats 1000000 in
theorem pick_any (L : SrcLaw SA) {rb : Nat} (K : HearSpec SA ask may rb) (hp : pv 3 = .iface 46 (.pointer (some ⟨rb, 0, none⟩))) (h : RI SA B S w b pv vt T s x) (of : Int) (hm : may 3 of) (h1 : of ≠ 1) :
    Calls Tryd.prog 46 #[.pointer (some ⟨b, 0, none⟩), .int .i64 of] w fun e w' => e = .returned (.tuple #[.int .i64 (if (ask x 3 of).1.e = 0 then (ask x 3 of).1.n else 0), .bool (decide ((ask x 3 of).1.e = 0))]) ∧
      ∃ S' T', RI SA B S' w' b pv vt T' (hdS s (ask x 3 of).1) (ask x 3 of).2 ∧ Fr S w w' S' := by
  have hc := hear_any L K hp h 3 of hm
  generalize ask x 3 of = R at *
  obtain ⟨⟨rk, ro, rn, rf, re⟩, x'⟩ := R
  have hne : (of == 1) = false := by simpa using h1
  have HC := hide hc
  clear hc h hp hm h1
  by_cases hre : re = 0
  · have e2 : hdS s ⟨rk, ro, rn, rf, re⟩ = { s with heard := wrap64 (s.heard + 1) } := by simp [hdS, hre]
    rw [e2]
    have HRE := hide hre
    simp only [hre, if_true, decide_true]
    clear hre e2
    go_enter Tryd.func46, Tryd.ntmps46
    go_wp2_with (go_at_call 41; refine (unhide HC).mono ?_; rintro e w1 ⟨S', T', fv, r1, r2, r3⟩; rw [if_pos (unhide HRE)] at r1 r3; obtain ⟨r3, ri⟩ := r3; obtain ⟨fa, fc, rfl, _⟩ := ri; subst r3; have R1 := hide r1; have R2 := hide r2; clear r1 r2)
    refine bodyPost_ret (v := .tuple #[.int .i64 rn, .bool true]) (by simp [results, Tryd.results46, go_sem]) rfl ?_
    exact ⟨rfl, S', T', (unhide R1).alloc L _, (unhide R2).alloc _⟩
  · have e2 : hdS s ⟨rk, ro, rn, rf, re⟩ = { s with fin := re } := by simp [hdS, hre]
    rw [e2]
    have HRE := hide hre
    simp only [hre, if_false, decide_false]
    clear hre e2
    go_enter Tryd.func46, Tryd.ntmps46
    go_wp2_with (go_at_call 41; refine (unhide HC).mono ?_; rintro e w1 ⟨S', T', fv, r1, r2, r3⟩; rw [if_neg (unhide HRE)] at r1 r3; subst r3; have R1 := hide r1; have R2 := hide r2; clear r1 r2)
    refine bodyPost_ret (v := .tuple #[.int .i64 0, .bool false]) (by simp [results, Tryd.results46, go_sem]) rfl ?_
    exact ⟨rfl, S', T', (unhide R1).alloc L _, (unhide R2).alloc _⟩
end
end Go.Proofs.YtfmbebofllgmoaaDoor
namespace Go.Proofs.YtfmbebofllgmoaaDoor
open Go.RowKit

section
variable {σ : Type} {ask : σ → Int → Int → Rep × σ}

theorem hM_inv (hk : ClockOk ask) {N n : Nat} {f : Nat → O3} : ∀ (k : Nat) (s : PS) (x : σ), QInv N s → QInv N (hM ask f n k s x).1
  | 0, _, _, h => h
  | k + 1, s, x, h => by
    unfold hM
    by_cases hc : s.next < n ∧ s.fin = 0
    · rw [if_pos hc]
      by_cases hf : s.fuel = 0
      · rw [if_pos hf]; exact ⟨h.fuel, h.clock, h.armings, h.trace⟩
      · rw [if_neg hf]
        have h1 := h.fuel
        have h2 := h.armings
        have h3 := h.trace
        exact hM_inv hk k _ _ (opM_inv hk _ _ _ ⟨⟨by show 0 ≤ s.fuel - 1; omega, by show s.fuel - 1 ≤ 5000; omega⟩, h.clock, ⟨h2.1, by show s.armings + (s.fuel - 1) ≤ 5000; omega⟩, by show s.trace.length + (s.fuel - 1).toNat ≤ N; omega⟩
          (by show s.armings + (s.fuel - 1) + 1 ≤ 5000; omega) (by show s.trace.length + (s.fuel - 1).toNat + 1 ≤ N; omega))
    · rw [if_neg hc]; exact h

/-- Files that are watched are files of the program; timers that are armed are timers of the program, by their numbers, each with an arming of its own. -/
structure WInv (nt nf : Nat) (s : PS) : Prop where
  wat : ∀ i, s.wat i = true → i < nf
  num : ∀ i, (s.tim i).1 = true → i < nt ∧ (s.tim i).2.2.2 = (i : Int)
  arm : ∀ i, (s.tim i).1 = true → (s.tim i).2.2.1 ≤ s.armings
  uni : ∀ i j, (s.tim i).1 = true → (s.tim j).1 = true → (s.tim i).2.2.1 = (s.tim j).2.2.1 → i = j

theorem WInv.of {nt nf : Nat} {s s' : PS} (h : WInv nt nf s) (hw : s'.wat = s.wat) (ht : s'.tim = s.tim) (ha : s'.armings = s.armings) : WInv nt nf s' := by
  obtain ⟨h1, h2, h3, h4⟩ := h
  exact ⟨by rw [hw]; exact h1, by rw [ht]; exact h2, by rw [ht, ha]; exact h3, by rw [ht]; exact h4⟩

theorem ckS_winv {nt nf : Nat} {s : PS} (h : WInv nt nf s) (R : Rep) : WInv nt nf (ckS s R) := by
  unfold ckS; exact ite_ok (P := WInv nt nf) (ite_ok (P := WInv nt nf) (h.of rfl rfl rfl) (h.of rfl rfl rfl)) (h.of rfl rfl rfl)

theorem opM_winv {nt nf : Nat} {c a v : Int} {s : PS} (x : σ) (hr : rightB c a v nt nf = true) (h : WInv nt nf s) : WInv nt nf (opM ask (c, a, v) s x).1 := by
  have hc := right_code hr
  have hcs : c = 1 ∨ c = 2 ∨ c = 3 ∨ c = 4 ∨ c = 5 ∨ c = 6 ∨ c = 7 ∨ c = 8 ∨ c = 9 ∨ c = 10 ∨ c = 11 := by omega
  rcases hcs with rfl | rfl | rfl | rfl | rfl | rfl | rfl | rfl | rfl | rfl | rfl
  · exact h.of rfl rfl rfl
  · exact h.of rfl rfl rfl
  · obtain ⟨q1, q2⟩ := right_tim hr (by omega)
    refine ⟨h.wat, ?_, ?_, ?_⟩
    · intro i hi
      by_cases e : i = a.toNat
      · subst e; simp [opM, upd]; omega
      · have h0 : (opM ask (3, a, v) s x).1.tim i = s.tim i := by simp [opM, upd, e]
        rw [h0] at hi ⊢; exact h.num i hi
    · intro i hi
      have ha : (opM ask (3, a, v) s x).1.armings = s.armings + 1 := by simp [opM]
      rw [ha]
      by_cases e : i = a.toNat
      · subst e; simp [opM, upd]
      · have h0 : (opM ask (3, a, v) s x).1.tim i = s.tim i := by simp [opM, upd, e]
        rw [h0] at hi ⊢
        have := h.arm i hi
        omega
    · have hne : ∀ i, i ≠ a.toNat → (opM ask (3, a, v) s x).1.tim i = s.tim i := fun i e => by simp [opM, upd, e]
      have heq : ((opM ask (3, a, v) s x).1.tim a.toNat).2.2.1 = s.armings + 1 := by simp [opM, upd]
      intro i j hi hj he
      by_cases e : i = a.toNat
      · by_cases e' : j = a.toNat
        · omega
        · subst e
          rw [heq] at he
          rw [hne j e'] at hj he
          have := h.arm j hj
          omega
      · by_cases e' : j = a.toNat
        · subst e'
          rw [heq] at he
          rw [hne i e] at hi he
          have := h.arm i hi
          omega
        · rw [hne i e] at hi he
          rw [hne j e'] at hj he
          exact h.uni i j hi hj he
  · have hne : ∀ i, ((opM ask (4, a, v) s x).1.tim i).1 = true → (opM ask (4, a, v) s x).1.tim i = s.tim i := fun i e => by
      by_cases e' : i = a.toNat
      · subst e'; simp [opM, upd] at e
      · simp [opM, upd, e']
    refine ⟨h.wat, ?_, ?_, ?_⟩
    · intro i hi; have h0 := hne i hi; rw [h0] at hi ⊢; exact h.num i hi
    · intro i hi; have h0 := hne i hi; rw [h0] at hi ⊢; exact h.arm i hi
    · intro i j hi hj he
      have h0 := hne i hi
      have h1 := hne j hj
      rw [h0] at hi he
      rw [h1] at hj he
      exact h.uni i j hi hj he
  · obtain ⟨q1, q2⟩ := right_file hr (by omega)
    refine ⟨?_, h.num, h.arm, h.uni⟩
    intro i hi
    by_cases e : i = a.toNat
    · omega
    · simp [opM, upd, e] at hi; exact h.wat i hi
  · obtain ⟨q1, q2⟩ := right_file hr (by omega)
    refine ⟨?_, h.num, h.arm, h.uni⟩
    intro i hi
    by_cases e : i = a.toNat
    · omega
    · simp [opM, upd, e] at hi; exact h.wat i hi
  · have hq := ckS_winv h (ask x 1 0).1
    exact ite_ok (P := WInv nt nf) (hq.of rfl rfl rfl) hq
  · show WInv nt nf (lotS s (ask x 4 v).1 a.toNat)
    unfold lotS; exact ite_ok (P := WInv nt nf) (h.of rfl rfl rfl) (h.of rfl rfl rfl)
  · exact h.of rfl rfl rfl
  · exact ite_ok (P := WInv nt nf) (h.of rfl rfl rfl) h
  · exact h.of rfl rfl rfl

theorem hM_winv {nt nf n : Nat} {f : Nat → O3} (hr : ∀ i, i < n → rt (f i) nt nf = true) : ∀ (k : Nat) (s : PS) (x : σ), 0 ≤ s.next → WInv nt nf s → WInv nt nf (hM ask f n k s x).1
  | 0, _, _, _, h => h
  | k + 1, s, x, h0, h => by
    unfold hM
    by_cases hc : s.next < n ∧ s.fin = 0
    · rw [if_pos hc]
      by_cases hf : s.fuel = 0
      · rw [if_pos hf]; exact h.of rfl rfl rfl
      · rw [if_neg hf]
        have hn := opM_next (ask := ask) (f s.next.toNat) { s with fuel := s.fuel - 1, next := s.next + 1 } x
        refine hM_winv hr k _ _ (by simp only at hn; omega) ?_
        have hrr := hr s.next.toNat (by omega)
        exact opM_winv x hrr (h.of rfl rfl rfl)
    · rw [if_neg hc]; exact h

/-- A pick: which, is it to be had, and what comes of it. -/
def pk (ask : σ → Int → Int → Rep × σ) (n : Nat) (s : PS) (x : σ) : Int × Bool × PS × σ :=
  if n = 1 then (0, true, s, x) else (if (ask x 3 n).1.e = 0 then (ask x 3 n).1.n else 0, decide ((ask x 3 n).1.e = 0), hdS s (ask x 3 n).1, (ask x 3 n).2)
/-- One ready file's turn. -/
def wk1 (g : Int → PS → σ → PS × σ) (z : Int) (s : PS) (x : σ) : PS × σ := if s.wat z.toNat then g z { s with trace := s.trace ++ [(2, z, 0)] } x else (s, x)
/-- The ready files, k of them at most. -/
def wkM (ask : σ → Int → Int → Rep × σ) (g : Int → PS → σ → PS × σ) : Nat → List Int → PS → σ → PS × σ
  | 0, _, s, x => (s, x)
  | k + 1, l, s, x => if l = [] ∨ s.fin ≠ 0 then (s, x) else
    if (pk ask l.length s x).2.1 then wkM ask g k (l.eraseIdx (pk ask l.length s x).1.toNat) (wk1 g (l.getD (pk ask l.length s x).1.toNat 0) (pk ask l.length s x).2.2.1 (pk ask l.length s x).2.2.2).1 (wk1 g (l.getD (pk ask l.length s x).1.toNat 0) (pk ask l.length s x).2.2.1 (pk ask l.length s x).2.2.2).2
    else ((pk ask l.length s x).2.2.1, (pk ask l.length s x).2.2.2)

/-- The source's picks are picks. -/
def PickOk (ask : σ → Int → Int → Rep × σ) : Prop := ∀ x (n : Nat), 2 ≤ n → n ≤ 8 → (ask x 3 n).1.e = 0 → 0 ≤ (ask x 3 n).1.n ∧ (ask x 3 n).1.n < n

theorem pk_lt (hk : PickOk ask) {n : Nat} (s : PS) (x : σ) (h1 : 1 ≤ n) (h8 : n ≤ 8) (hb : (pk ask n s x).2.1 = true) : 0 ≤ (pk ask n s x).1 ∧ (pk ask n s x).1 < n := by
  unfold pk at *
  by_cases e : n = 1
  · subst e; simp
  · rw [if_neg e] at hb ⊢
    have he : (ask x 3 n).1.e = 0 := by simpa using hb
    simp only [he, if_true]
    exact hk x n (by omega) h8 he

theorem pk_same (n : Nat) (s : PS) (x : σ) : (pk ask n s x).2.2.1.fuel = s.fuel ∧ (pk ask n s x).2.2.1.clock = s.clock ∧ (pk ask n s x).2.2.1.armings = s.armings ∧ (pk ask n s x).2.2.1.trace = s.trace ∧ (pk ask n s x).2.2.1.wat = s.wat ∧ (pk ask n s x).2.2.1.tim = s.tim := by
  unfold pk
  by_cases e : n = 1
  · rw [if_pos e]; exact ⟨rfl, rfl, rfl, rfl, rfl, rfl⟩
  · rw [if_neg e]; simp only [hdS]
    by_cases e' : (ask x 3 n).1.e = 0
    · rw [if_pos e']; exact ⟨rfl, rfl, rfl, rfl, rfl, rfl⟩
    · rw [if_neg e']; exact ⟨rfl, rfl, rfl, rfl, rfl, rfl⟩
theorem QInv.of {N : Nat} {s s' : PS} (h : QInv N s) (h1 : s'.fuel = s.fuel) (h2 : s'.clock = s.clock) (h3 : s'.armings = s.armings) (h4 : s'.trace = s.trace) : QInv N s' :=
  ⟨by rw [h1]; exact h.fuel, by rw [h2]; exact h.clock, by rw [h1, h3]; exact h.armings, by rw [h1, h4]; exact h.trace⟩
end
end Go.Proofs.YtfmbebofllgmoaaDoor
namespace Go.Proofs.YtfmbebofllgmoaaDoor
open Go.RowKit
attribute [local go_sem ↓] Go.wp_at_zero Go.wp_at_succ

theorem OwnI.weaken {w : World} {B B' : Nat} {v : Value} {l : List Int} (h : OwnI w B v l) (hB : B' ≤ B) : OwnI w B' v l := by
  refine ⟨h.1, ?_⟩
  rcases h.2 with hn | ⟨g, cap, cur, hv, hb, r⟩
  · exact .inl hn
  · exact .inr ⟨g, cap, cur, hv, Nat.le_trans hB hb, r⟩
theorem OwnI.fr {S S' : Nat → Prop} {w w' : World} {B : Nat} {v : Value} {l : List Int} (h : OwnI w B v l) (hf : Fr S w w' S') (hq : ∀ q, v.ownBlock = some q → q < w.heap.size ∧ ¬ S q) : OwnI w' B v l :=
  ownsRow_of_block h (fun q e => hf.same q (hq q e).1 (hq q e).2)
theorem Fr.notIn {S S' : Nat → Prop} {w w' : World} {v : Value} (hf : Fr S w w' S') (hq : ∀ q, v.ownBlock = some q → q < w.heap.size ∧ ¬ S q) : ∀ q, v.ownBlock = some q → ¬ S' q :=
  fun q e hs => (hq q e).2 (hf.old q (hq q e).1 hs)
theorem OwnI.len {w : World} {B : Nat} {v : Value} {l : List Int} (h : OwnI w B v l) : ∃ a c, v = .slice a l.length c := by
  rcases h.2 with ⟨hv, h0⟩ | ⟨g, cap, cur, hv, _⟩
  · have h1 : l.length = 0 := h0
    exact ⟨none, 0, by rw [h1]; exact hv⟩
  · exact ⟨_, _, hv⟩

section
variable {σ : Type} {SA : (Nat → Prop) → World → σ → Prop} {ask : σ → Int → Int → Rep × σ} {may : Int → Int → Prop} {B : Nat} {S T : Nat → Prop} {w : World} {b : Nat} {pv : Nat → Value} {vt : Value} {s : PS} {x : σ}

theorem pick_all (L : SrcLaw SA) {rb : Nat} (K : HearSpec SA ask may rb) (hp : pv 3 = .iface 46 (.pointer (some ⟨rb, 0, none⟩))) (h : RI SA B S w b pv vt T s x) (n : Nat) (hm : ∀ n : Nat, 2 ≤ n → n ≤ 8 → may 3 n) (h1 : 1 ≤ n) (h8 : n ≤ 8) :
    Calls Tryd.prog 46 #[.pointer (some ⟨b, 0, none⟩), .int .i64 n] w fun e w' => e = .returned (.tuple #[.int .i64 (pk ask n s x).1, .bool (pk ask n s x).2.1]) ∧ ∃ S' T', RI SA B S' w' b pv vt T' (pk ask n s x).2.2.1 (pk ask n s x).2.2.2 ∧ Fr S w w' S' := by
  by_cases e : n = 1
  · subst e
    have e0 : pk ask 1 s x = (0, true, s, x) := rfl
    rw [e0]
    exact pick_one.mono fun e w' ⟨he, hw⟩ => ⟨he, S, T, by rw [hw]; exact h, by rw [hw]; exact Fr.refl S w⟩
  · have e0 : pk ask n s x = (if (ask x 3 n).1.e = 0 then (ask x 3 n).1.n else 0, decide ((ask x 3 n).1.e = 0), hdS s (ask x 3 n).1, (ask x 3 n).2) := if_neg e
    rw [e0]
    exact pick_any L K hp h n (hm n (by omega) h8) (by omega)

theorem IntsIn.alloc {w : World} {v : Value} {l : List Int} {P P' : Nat → Prop} (h : IntsIn w v l P) (o : Obj) (hP : ∀ q, P q → q < w.heap.size ∧ P' q) : IntsIn (w.alloc o) v l P' := by
  obtain ⟨a, c, hv, hc⟩ := h
  refine ⟨a, c, hv, ?_⟩
  rcases hc with hc | ⟨q, off, ha, hp, hc⟩
  · exact .inl hc
  · exact .inr ⟨q, off, ha, (hP q hp).2, fun i hi => (World.cell?_of_block (w := w) (a := ⟨q, off + i, none⟩) (Below.heap_alloc _ _ _ (hP q hp).1)).trans (hc i hi)⟩

theorem wkM_stop (g : Int → PS → σ → PS × σ) (k : Nat) (l : List Int) (s : PS) (x : σ) (h : l = [] ∨ s.fin ≠ 0) : wkM ask g k l s x = (s, x) := by
  cases k with
  | zero => rfl
  | succ k => simp only [wkM]; rw [if_pos h]

theorem wkM_step (g : Int → PS → σ → PS × σ) (k : Nat) (l : List Int) (s : PS) (x : σ) (hl : l ≠ []) (hf : s.fin = 0) {n : Int} {ok : Bool} {s4 : PS} {x4 : σ} (hpk : pk ask l.length s x = (n, ok, s4, x4)) :
    wkM ask g (k + 1) l s x = if ok then wkM ask g k (l.eraseIdx n.toNat) (wk1 g (l.getD n.toNat 0) s4 x4).1 (wk1 g (l.getD n.toNat 0) s4 x4).2 else (s4, x4) := by
  simp only [wkM]
  rw [if_neg (by simp [hl, hf]), hpk]

/-- How far the ready files have come. -/
def WRel (SA : (Nat → Prop) → World → σ → Prop) (ask : σ → Int → Int → Rep × σ) (B : Nat) (S : Nat → Prop) (w : World) (b : Nat) (pv : Nat → Value) (g : Int → PS → σ → PS × σ) (nt nf N : Nat) (fin : PS × σ) (k : Nat) (u : Value) (wr : World) : Prop :=
  ∃ S' vt' T' s' x' l, RI SA B S' wr b pv vt' T' s' x' ∧ Fr S w wr S' ∧ OwnI wr w.heap.size u l ∧ (∀ q, u.ownBlock = some q → ¬ S' q) ∧ wkM ask g k l s' x' = fin ∧ QInv N s' ∧ s'.trace.length + s'.fuel.toNat + l.length ≤ N ∧ WInv nt nf s' ∧ (∀ z, z ∈ l → 0 ≤ z ∧ z < 8) ∧ l.length ≤ k ∧ k ≤ 8

theorem below_of {w0 w5 : World} {S5 : Nat → Prop} (hbel : Below w0.heap.size w0 w) (hB : B = w0.heap.size) (hSB : ∀ k, S k → B ≤ k) (hBw : B ≤ w.heap.size) (f : Fr S w w5 S5) : Below w0.heap.size w0 w5 :=
  hbel.trans (hB ▸ f.below hSB hBw)

theorem wrel_next {wr w3 w4 : World} {S3 S4 S5 T5 : Nat → Prop} {vt5 : Value} {s5 : PS} {x5 : σ} {g : Int → PS → σ → PS × σ} {nt nf N k' i : Nat} {fin : PS × σ} {l : List Int} {v v4 : Value} {w5 : World}
    (r5 : RI SA B S5 w5 b pv vt5 T5 s5 x5) (f3 : Fr S w wr S3) (f4 : Fr S3 wr w3 S4) (g4 : w3.grownBy w4 v.ownBlock) (f5 : Fr S4 w4 w5 S5) (hg1 : ∀ q, v.ownBlock = some q → q < wr.heap.size ∧ ¬ S3 q) (ho : OwnI wr w.heap.size v l)
    (o4 : OwnI w4 w.heap.size v4 (l.eraseIdx i)) (b4 : v4.ownBlock = v.ownBlock) (hil : i < l.length) (e : wkM ask g k' (l.eraseIdx i) s5 x5 = fin) (hq : QInv (N - (l.length - 1)) s5) (hw : WInv nt nf s5) (hl : ∀ z, z ∈ l → 0 ≤ z ∧ z < 8) (hlk : l.length ≤ k' + 1) (hk8 : k' + 1 ≤ 8) (hN : 8 ≤ N) :
    WRel SA ask B S w b pv g nt nf N fin k' v4 w5 := by
  have hb4 : ∀ q, v4.ownBlock = some q → q < w4.heap.size ∧ ¬ S4 q := fun q hq' => by
    rw [b4] at hq'
    exact ⟨Nat.lt_of_lt_of_le (hg1 q hq').1 (Nat.le_trans f4.size g4.size), f4.notIn hg1 q hq'⟩
  have hlen : (l.eraseIdx i).length = l.length - 1 := List.length_eraseIdx_of_lt hil
  have h1 := hq.trace
  refine ⟨S5, vt5, T5, s5, x5, l.eraseIdx i, r5, ((f3.trans f4).grown g4 (fun q hq' => (ho.lt q hq').1)).trans f5, o4.fr f5 hb4, f5.notIn hb4, e, ⟨hq.fuel, hq.clock, hq.armings, by omega⟩, by rw [hlen]; omega, hw, fun z hz => hl z (List.mem_of_mem_eraseIdx hz), by rw [hlen]; omega, by omega⟩

set_option maxHeartbeats 4000000 in
theorem wake_any (L : SrcLaw SA) {rb : Nat} (K : HearSpec SA ask may rb) (hp : pv 3 = .iface 46 (.pointer (some ⟨rb, 0, none⟩))) (hm : may 1 0) (hm2 : may 2 0) (hm3 : ∀ n : Nat, 2 ≤ n → n ≤ 8 → may 3 n) (hm4 : ∀ v, 1 ≤ v → v ≤ 1000000 → may 4 v) (hk : ClockOk ask) (hkp : PickOk ask)
    {w0 : World} (hB : B = w0.heap.size) (hbel : Below w0.heap.size w0 w) (h : RI SA B S w b pv vt T s x) {N nt nf : Nat} {fl : Nat → Nat} {ff : Nat → Nat → O3} (hv : HandsIn w0 (pv 2) nf fl ff) (hn : ∀ i, i < nf → fl i ≤ 32) (hnt : nt ≤ 8) (hnf : nf ≤ 8) (hr : ∀ i, i < nf → ∀ j, j < fl i → rt (ff i j) nt nf = true)
    (hq : QInv N s) (hN : N + 8 ≤ 100000000) (hw : WInv nt nf s) (hfil : ∀ z, z ∈ (ask x 2 0).1.files → 0 ≤ z ∧ z < 8) (hfl8 : (ask x 2 0).1.files.length ≤ 8) :
    Calls Tryd.prog 37 #[.pointer (some ⟨b, 0, none⟩)] w fun e w' => e = .returned (.tuple #[]) ∧
      RunPost SA B S w b pv (if (ask x 2 0).1.e = 0 then wkM ask (fun z s x => hM ask (ff z.toNat) (fl z.toNat) (fl z.toNat) { s with next := 0 } x) 8 ((ask x 2 0).1.files.filter fun z => s.wat z.toNat) { s with heard := wrap64 (s.heard + 1) } (ask x 2 0).2 else ({ s with fin := (ask x 2 0).1.e }, (ask x 2 0).2)).1
       (if (ask x 2 0).1.e = 0 then wkM ask (fun z s x => hM ask (ff z.toNat) (fl z.toNat) (fl z.toNat) { s with next := 0 } x) 8 ((ask x 2 0).1.files.filter fun z => s.wat z.toNat) { s with heard := wrap64 (s.heard + 1) } (ask x 2 0).2 else ({ s with fin := (ask x 2 0).1.e }, (ask x 2 0).2)).2 w' := by
  have hc := hear_any L K hp h 2 0 hm2
  generalize ask x 2 0 = R at *
  obtain ⟨⟨rk, ro, rn, rf, re⟩, x'⟩ := R
  have HSB := hide (fun k (hk : S k) => (h.bound k hk).1)
  have HBW := hide (show B ≤ w.heap.size by have := h.bound b h.inB; omega)
  have HBEL := hide hbel
  have HBE := hide hB
  have HV := hide hv
  have HR := hide hr
  have HC := hide hc
  have HN := hide hn
  simp only at hfil hfl8 ⊢
  have HQ := hide hq
  have HW := hide hw
  have HFI := hide hfil
  clear hc h hbel hB hv hr hn hq hw hfil
  by_cases hre : re = 0
  · rw [if_pos hre]
    generalize hfin : wkM ask (fun z s x => hM ask (ff z.toNat) (fl z.toNat) (fl z.toNat) { s with next := 0 } x) 8 (rf.filter fun z => s.wat z.toNat) { s with heard := wrap64 (s.heard + 1) } x' = fin
    have HFIN := hide hfin
    have HRE := hide hre
    clear hre hfin
    go_enter Tryd.func37, Tryd.ntmps37
    go_wp2_with (first | (go_at_call 41; refine (unhide HC).mono ?_; rintro e w1 ⟨S', T', fv, r1, r2, r3⟩; rw [if_pos (unhide HRE)] at r1 r3; obtain ⟨r3, ri⟩ := r3; have RIN := hide ri; obtain ⟨fa, fc, rfl, _⟩ := ri; subst r3; have R1 := hide r1; have R2 := hide r2; clear r1 r2) | (go_at_call 45; refine (ready_any L ((unhide R1).alloc L _) _ rf ((unhide RIN).alloc _ (fun q hq => ⟨hq.2.1, by simp; omega, hq.2.2⟩)) hfl8 (unhide HFI)).mono ?_; rintro e w2 ⟨v2, rfl, o2, q1, q2⟩; have O2 := hide o2; have Q1 := hide q1; have Q2 := hide q2; clear o2 q1 q2))
    go_loopg [4] 8 (fun k u wr => WRel SA ask B S w b pv (fun z s x => hM ask (ff z.toNat) (fl z.toNat) (fl z.toNat) { s with next := 0 } x) nt nf (N + 8) fin k u wr)
    case atStart =>
      have o2 := unhide O2
      have hsz := ((unhide R2).alloc (.cells #[.int .i64 rk, .int .i64 ro, .int .i64 rn, .slice fa rf.length fc] 82)).size
      have hq := unhide HQ
      have hle := List.length_filter_le (fun z => s.wat z.toNat) rf
      have htr := hq.trace
      refine ⟨S', vt, T', _, x', _, unhide Q1, ((unhide R2).alloc _).trans (unhide Q2), o2.weaken hsz, ?_, unhide HFIN, ⟨hq.fuel, hq.clock, hq.armings, by show s.trace.length + s.fuel.toNat ≤ N + 8; omega⟩, ?_, (unhide HW).of rfl rfl rfl, ?_, by show (rf.filter fun z => s.wat z.toNat).length ≤ 8; omega, Nat.le_refl 8⟩
      · intro q hq hs
        have h1 := (o2.lt q hq).1
        have h2 := (((unhide R1).alloc L (.cells #[.int .i64 rk, .int .i64 ro, .int .i64 rn, .slice fa rf.length fc] 82)).bound q hs).2
        omega
      · show s.trace.length + s.fuel.toNat + (rf.filter fun z => s.wat z.toNat).length ≤ N + 8
        omega
      · intro z hz
        exact unhide HFI z (List.mem_filter.1 hz).1
    case round =>
      obtain ⟨S3, vt3, T3, s3, x3, l, r1, r2, ho, hS3, hfin, hq3, htr, hw3, hl3, hlk, hk8⟩ := hrel
      have c66 := (r1.cell 66 (by omega)).trans (by rw [img_fin])
      obtain ⟨la, lc, rfl⟩ := ho.len
      by_cases hl0 : l = []
      · have e := hfin.symm.trans (wkM_stop _ gk l s3 x3 (.inl hl0))
        have hlen : l.length = 0 := by rw [hl0]; rfl
        have R1' := hide r1
        have R2' := hide r2
        have E := hide e
        clear r1 r2 e hfin hq3 htr hw3 hl3 ho hS3
        rw [hlen]
        go_wp2
        go_end0
        rw [unhide E]
        exact ⟨rfl, S3, vt3, T3, unhide R1', unhide R2'⟩
      · have hpos : 0 < l.length := List.length_pos_iff.2 hl0
        by_cases hfi : s3.fin = 0
        · obtain ⟨g, cap, cur, hval, hgB, hg, _, _, _, hcell⟩ := ownI_parts ho hpos
          injection hval with e1 e2 e3
          subst e1 e3
          obtain ⟨k', rfl⟩ : ∃ k', gk = k' + 1 := ⟨gk - 1, by omega⟩
          have hgS : ¬ S3 g := hS3 g rfl
          have hgl : g < wr.heap.size := (ho.lt g rfl).2
          have h98 := pick_all L K hp r1 l.length hm3 hpos (by omega)
          have hlt := pk_lt hkp (n := l.length) s3 x3 hpos (by omega)
          obtain ⟨p1, p2, p3, p4, p5, p6⟩ := pk_same (ask := ask) l.length s3 x3
          have hst := fun n ok s4 x4 => wkM_step (ask := ask) (fun z s x => hM ask (ff z.toNat) (fl z.toNat) (fl z.toNat) { s with next := 0 } x) k' l s3 x3 hl0 hfi (n := n) (ok := ok) (s4 := s4) (x4 := x4)
          generalize hpk : pk ask l.length s3 x3 = P at *
          obtain ⟨n, ok, s4, x4⟩ := P
          have hfin' := hfin.symm.trans (hst n ok s4 x4 rfl)
          simp only at p1 p2 p3 p4 p5 p6 hlt h98
          clear hst hfin hpk
          have hfb : (s3.fin == 0) = true := by simpa using hfi
          have R1' := hide r1
          have R2' := hide r2
          have HO := hide ho
          have H98 := hide h98
          cases ok
          · have E := hide hfin'
            clear r1 r2 ho h98 hfin' hcell hq3 htr hw3 hl3 hlt hS3 hg
            generalize s3.fin = fi at *
            go_wp2_with (go_at_call 46; refine (unhide H98).mono ?_; rintro e w3 ⟨rfl, S4, T4, r4, f4⟩; have R4 := hide r4; have F4 := hide f4; clear r4 f4)
            refine bodyPost_ret (v := .tuple #[]) (by simp [results, Tryd.results37, go_sem]) rfl ?_
            have e := unhide E
            simp only [Bool.false_eq_true, if_false] at e
            rw [e]
            exact ⟨rfl, S4, vt3, T4, unhide R4, (unhide R2').trans (unhide F4)⟩
          · obtain ⟨hn0, hn1⟩ := hlt rfl
            obtain ⟨i, rfl⟩ : ∃ i : Nat, n = i := ⟨n.toNat, by omega⟩
            rw [if_pos rfl, Int.toNat_natCast] at hfin'
            have hil : i < l.length := by omega
            have hz : l.getD i 0 ∈ l := by simp [List.getD, hil]
            have hzb := hl3 _ hz
            have hcz := hcell i hil
            have hL : l.length = i + 1 + (l.length - (i + 1)) := by omega
            generalize hgz : l.getD i 0 = z at *
            have hg1 : ∀ q, Value.ownBlock (.slice (some ⟨g, 0, none⟩) l.length lc) = some q → q < wr.heap.size ∧ ¬ S3 q := fun q hq => ⟨(ho.lt q hq).2, hS3 q hq⟩
            have HG1 := hide hg1
            have HL := hide hL
            have E := hide hfin'
            have HQ3 := hide hq3
            have HT3 := hide htr
            have HW3 := hide hw3
            have HL3 := hide hl3
            have hi0 : (0 : Int) ≤ (i : Int) := by omega
            have hi1 : (i : Int) < (l.length : Int) := by omega
            have hwr : IntKind.i64.wrap ((i : Int) + 1) = (i : Int) + 1 := by rw [IntKind.wrap_i64]; omega
            have HP := hide (show s4.fuel = s3.fuel ∧ s4.clock = s3.clock ∧ s4.armings = s3.armings ∧ s4.trace = s3.trace ∧ s4.wat = s3.wat ∧ s4.tim = s3.tim from ⟨p1, p2, p3, p4, p5, p6⟩)
            clear p1 p2 p3 p4 p5 p6
            obtain ⟨z0, z8⟩ := hzb
            cases hwz : s4.wat z.toNat
            · clear r1 r2 ho h98 hcell hfin' hq3 htr hw3 hl3 hlt hS3 hg hL hg1 hz
              have HWZ := hide hwz
              clear hwz
              generalize s3.fin = fi at *
              go_wp2_with (first | (go_at_call 46; refine (unhide H98).mono ?_; rintro e w3 ⟨rfl, S4, T4, r4, f4⟩; have R4 := hide r4; have F4 := hide f4; have cz := (f4.cell g i hgl hgS).trans hcz; clear r4 f4) | (go_at_call 47; refine (delete_any ((unhide HO).fr (unhide F4) (unhide HG1)) i _ (unhide HL)).mono ?_; rintro e w4 ⟨v4, rfl, o4, g4, b4⟩; have q4 := (unhide R4).grown L g4 ((unhide F4).notIn (unhide HG1)); have cw := (q4.cell (56 + z.toNat) (by omega)).trans (by rw [img_wat _ _ _ _ (by omega), unhide HWZ]); have Q4 := hide q4; clear q4; have O4 := hide o4; have G4 := hide g4; have B4 := hide b4; clear o4 g4 b4))
              go_roundg k'
              case rel =>
                obtain ⟨p1, p2, p3, p4, p5, p6⟩ := unhide HP
                have hq3 := unhide HQ3
                have ht3 := unhide HT3
                have e : wk1 (fun z s x => hM ask (ff z.toNat) (fl z.toNat) (fl z.toNat) { s with next := 0 } x) z s4 x4 = (s4, x4) := by unfold wk1; rw [if_neg (by rw [unhide HWZ]; simp)]
                have E' := unhide E
                rw [e] at E'
                exact wrel_next (unhide Q4) (unhide R2') (unhide F4) (unhide G4) (Fr.refl S4 w4) (unhide HG1) (unhide HO) (unhide O4) (unhide B4) hil E'.symm
                  ⟨by rw [p1]; exact hq3.fuel, by rw [p2]; exact hq3.clock, by rw [p1, p3]; exact hq3.armings, by rw [p1, p4]; omega⟩ ((unhide HW3).of p5 p6 p3) (unhide HL3) hlk hk8 (by omega)
              case measure => omega
            · have hznf : z.toNat < nf := hw3.wat _ (by rw [← (unhide HP).2.2.2.2.1]; exact hwz)
              obtain ⟨ha, hcap, hpv, _, hh⟩ := unhide HV
              rcases hh with hh | ⟨hb, hoff, rfl, hh⟩
              · omega
              obtain ⟨vi, hvi, hops⟩ := hh z.toNat hznf
              have hhb : hb < w0.heap.size := World.block_lt_of_cell? w0 _ hvi
              have HVI := hide hvi
              have HOPS := hide hops
              have HWZ := hide hwz
              have HPV := hide hpv
              have hznf' : z < (nf : Int) := by omega
              have hN5 : N + 8 - (l.length - 1) ≤ 100000000 := by omega
              have HQ5 : Hid (QInv (N + 8 - (l.length - 1)) { s4 with trace := s4.trace ++ [(2, z, 0)] }) := by
                obtain ⟨p1, p2, p3, p4, p5, p6⟩ := unhide HP
                have hf := hq3.fuel
                exact hide ⟨by show 0 ≤ s4.fuel ∧ s4.fuel ≤ 5000; rw [p1]; exact hq3.fuel, by show 0 ≤ s4.clock ∧ s4.clock ≤ 1099511627776; rw [p2]; exact hq3.clock, by show 0 ≤ s4.armings ∧ s4.armings + s4.fuel ≤ 5000; rw [p1, p3]; exact hq3.armings,
                  by show (s4.trace ++ [(2, z, 0)]).length + s4.fuel.toNat ≤ _; rw [p1, p4, List.length_append]; simp only [List.length_cons, List.length_nil]; omega⟩
              have HSM : Hid (Small s4.trace.length) := by
                have p4 := (unhide HP).2.2.2.1
                exact hide (by unfold Small; rw [p4]; omega)
              clear r1 r2 ho h98 hcell hfin' hq3 htr hw3 hl3 hlt hS3 hg hL hg1 hz hwz hh hvi hops hpv
              generalize s3.fin = fi at *
              go_wp2_with (first | (go_at_call 46; refine (unhide H98).mono ?_; rintro e w3 ⟨rfl, S4, T4, r4, f4⟩; have R4 := hide r4; have F4 := hide f4; have cz := (f4.cell g i hgl hgS).trans hcz; clear r4 f4) | (go_at_call 47; refine (delete_any ((unhide HO).fr (unhide F4) (unhide HG1)) i _ (unhide HL)).mono ?_; rintro e w4 ⟨v4, rfl, o4, g4, b4⟩; have q4 := (unhide R4).grown L g4 ((unhide F4).notIn (unhide HG1)); have cw := (q4.cell (56 + z.toNat) (by omega)).trans (by rw [img_wat _ _ _ _ (by omega), unhide HWZ]); have Q4 := hide q4; clear q4; have O4 := hide o4; have G4 := hide g4; have B4 := hide b4; clear o4 g4 b4) | (go_at_call 42; refine (tell_any L (unhide Q4) 2 z 0 (unhide HSM)).mono ?_; rintro e w5 ⟨rfl, S5, vt5, r5, f5⟩; have bel := below_of (unhide HBEL) (unhide HBE) (unhide HSB) (unhide HBW) (((((unhide R2').trans (unhide F4)).grown (unhide G4) (fun q hq' => ((unhide HO).lt q hq').1)).trans f5)); have cvi := (bel.cell (p := ⟨hb, hoff + z.toNat, none⟩) hhb).trans (unhide HVI); have BEL := hide bel; clear bel; have c2 := (r5.cell 2 (by omega)).trans (by rw [img_pv _ _ _ _ (by omega), unhide HPV]); have R5 := hide r5; have F5 := hide f5; clear r5 f5) | (go_at_call 18; refine (handle_any L K hp hm hm4 hk (unhide HBE) (unhide BEL) (unhide R5) (unhide HOPS) (unhide HN _ hznf) hnt hnf (unhide HR _ hznf) (unhide HQ5) hN5).mono ?_; rintro e w6 ⟨rfl, S6, vt6, T6, r6, f6⟩; have R6 := hide r6; have F6 := hide f6; clear r6 f6))
              go_roundg k'
              case rel =>
                have hq5 := unhide HQ5
                have e : wk1 (fun z s x => hM ask (ff z.toNat) (fl z.toNat) (fl z.toNat) { s with next := 0 } x) z s4 x4 = hM ask (ff z.toNat) (fl z.toNat) (fl z.toNat) { s4 with trace := s4.trace ++ [(2, z, 0)], next := 0 } x4 := by unfold wk1; rw [if_pos (unhide HWZ)]
                have E' := unhide E
                rw [e] at E'
                obtain ⟨p1, p2, p3, p4, p5, p6⟩ := unhide HP
                exact wrel_next (unhide R6) (unhide R2') (unhide F4) (unhide G4) ((unhide F5).trans (unhide F6)) (unhide HG1) (unhide HO) (unhide O4) (unhide B4) hil E'.symm
                  (hM_inv hk _ _ _ ⟨hq5.fuel, hq5.clock, hq5.armings, hq5.trace⟩) (hM_winv (unhide HR _ hznf) _ _ _ (Int.le_refl 0) ((unhide HW3).of p5 p6 p3)) (unhide HL3) hlk hk8 (by omega)
              case measure => omega
        · have e := hfin.symm.trans (wkM_stop _ gk l s3 x3 (.inr hfi))
          have hfb : (s3.fin == 0) = false := by simpa using hfi
          have R1' := hide r1
          have R2' := hide r2
          have E := hide e
          clear r1 r2 e hfin hq3 htr hw3 hl3 ho hS3
          generalize s3.fin = fi at *
          go_wp2
          go_end0
          rw [unhide E]
          exact ⟨rfl, S3, vt3, T3, unhide R1', unhide R2'⟩
  · rw [if_neg hre]
    have HRE := hide hre
    clear hre
    go_enter Tryd.func37, Tryd.ntmps37
    go_wp2_with (go_at_call 41; refine (unhide HC).mono ?_; rintro e w1 ⟨S', T', fv, r1, r2, r3⟩; rw [if_neg (unhide HRE)] at r1 r3; subst r3; have R1 := hide r1; have R2 := hide r2; clear r1 r2)
    refine bodyPost_ret (v := .tuple #[]) (by simp [results, Tryd.results37, go_sem]) rfl ?_
    exact ⟨rfl, S', vt, T', (unhide R1).alloc L _, (unhide R2).alloc _⟩
end
end Go.Proofs.YtfmbebofllgmoaaDoor
