/-
  PROVED HERE: the loop's idle tells whether no timer is armed and no file is watched. slices.SortFunc, cmp.Compare and bits.Len as they stand in this dump are those of the shelf. the closure by which due sorts: first by time, then by arming. the sort of no timer; what the sort of timers leaves in memory. due lists the timers that are armed and due, sorted by time and arming. the loop's pick, over a source that keeps its word. the loop's handle runs a handler as the model (hM) says, over a source that keeps its word. what the numbers of a run keep while a handler runs; the model of waking the ready files. wakeReady wakes the ready files as the model (wkM) says, over a source that keeps its word. fireDue lets the timers that are due go off as the model (frM) says, over a source that keeps its word. the model of a turn and of a run, and what the numbers of a run keep. turn takes a turn as the model (turnM) says, over a source that keeps its word. Run runs a program as the model (runM) says, over a source that keeps its word.
-/
import Derived.Test.YtfmbebofllgmoaaGreatDoorMloopa
import Derived.Deep.MidRow
import Derived.Shelf.SlSortCmp.SmallK
import Derived.Shelf.SlicesG.Cmp
import Derived.Shelf.Small.Bits
import Derived.Test.YtfmbebofllgmoaaGreatDoorProg
import Derived.Deep.RegionHeld3
import Derived.BigQuiet
import Derived.Laws.StructEq
import Derived.BigRegion
import Derived.Deep.DeepCutAuto
namespace Go.Proofs.YtfmbebofllgmoaaGreatDoor
open Go.RowKit

/-- The timers' cells. -/
def timL (t : Nat → TM) : List Value := (List.range 32).map fun j => timV (t (j / 4)) (j % 4)
theorem timL_get (t : Nat → TM) (i c : Nat) (hi : i < 8) (hc : c < 4) : (timL t)[i * 4 + c]? = some (timV (t i) c) := by
  have e : (i * 4 + c) / 4 = i := by omega
  have e' : (i * 4 + c) % 4 = c := by omega
  have e'' : i * 4 + c < 32 := by omega
  simp [timL, e'', e, e']
theorem timL_length (t : Nat → TM) : (timL t).length = 32 := by simp [timL]
theorem index_tim0 (t : Nat → TM) (w : World) : (Instr.index 127 (.agg (timL t).toArray) (.int .i64 0)).run Tryz.prog w = .ok (.agg #[.bool (t 0).1, .int .i64 (t 0).2.1, .int .i64 (t 0).2.2.1, .int .i64 (t 0).2.2.2]) w := by kernel_rfl
theorem index_tim1 (t : Nat → TM) (w : World) : (Instr.index 127 (.agg (timL t).toArray) (.int .i64 1)).run Tryz.prog w = .ok (.agg #[.bool (t 1).1, .int .i64 (t 1).2.1, .int .i64 (t 1).2.2.1, .int .i64 (t 1).2.2.2]) w := by kernel_rfl
theorem index_tim2 (t : Nat → TM) (w : World) : (Instr.index 127 (.agg (timL t).toArray) (.int .i64 2)).run Tryz.prog w = .ok (.agg #[.bool (t 2).1, .int .i64 (t 2).2.1, .int .i64 (t 2).2.2.1, .int .i64 (t 2).2.2.2]) w := by kernel_rfl
theorem index_tim3 (t : Nat → TM) (w : World) : (Instr.index 127 (.agg (timL t).toArray) (.int .i64 3)).run Tryz.prog w = .ok (.agg #[.bool (t 3).1, .int .i64 (t 3).2.1, .int .i64 (t 3).2.2.1, .int .i64 (t 3).2.2.2]) w := by kernel_rfl
theorem index_tim4 (t : Nat → TM) (w : World) : (Instr.index 127 (.agg (timL t).toArray) (.int .i64 4)).run Tryz.prog w = .ok (.agg #[.bool (t 4).1, .int .i64 (t 4).2.1, .int .i64 (t 4).2.2.1, .int .i64 (t 4).2.2.2]) w := by kernel_rfl
theorem index_tim5 (t : Nat → TM) (w : World) : (Instr.index 127 (.agg (timL t).toArray) (.int .i64 5)).run Tryz.prog w = .ok (.agg #[.bool (t 5).1, .int .i64 (t 5).2.1, .int .i64 (t 5).2.2.1, .int .i64 (t 5).2.2.2]) w := by kernel_rfl
theorem index_tim6 (t : Nat → TM) (w : World) : (Instr.index 127 (.agg (timL t).toArray) (.int .i64 6)).run Tryz.prog w = .ok (.agg #[.bool (t 6).1, .int .i64 (t 6).2.1, .int .i64 (t 6).2.2.1, .int .i64 (t 6).2.2.2]) w := by kernel_rfl
theorem index_tim7 (t : Nat → TM) (w : World) : (Instr.index 127 (.agg (timL t).toArray) (.int .i64 7)).run Tryz.prog w = .ok (.agg #[.bool (t 7).1, .int .i64 (t 7).2.1, .int .i64 (t 7).2.2.1, .int .i64 (t 7).2.2.2]) w := by kernel_rfl
theorem index_tim (t : Nat → TM) (i : Nat) (hi : i < 8) (w : World) : (Instr.index 127 (.agg (timL t).toArray) (.int .i64 (i : Int))).run Tryz.prog w = .ok (.agg #[.bool (t i).1, .int .i64 (t i).2.1, .int .i64 (t i).2.2.1, .int .i64 (t i).2.2.2]) w := by
  have hc : i = 0 ∨ i = 1 ∨ i = 2 ∨ i = 3 ∨ i = 4 ∨ i = 5 ∨ i = 6 ∨ i = 7 := by omega
  rcases hc with rfl | rfl | rfl | rfl | rfl | rfl | rfl | rfl
  · exact index_tim0 t w
  · exact index_tim1 t w
  · exact index_tim2 t w
  · exact index_tim3 t w
  · exact index_tim4 t w
  · exact index_tim5 t w
  · exact index_tim6 t w
  · exact index_tim7 t w
theorem info142 : (Tryz.prog.info? 127).map (·.size) = some 32 := by kernel_rfl

section
variable {σ : Type} {SA : (Nat → Prop) → World → σ → Prop} {B : Nat} {S T : Nat → Prop} {w : World} {b : Nat} {pv : Nat → Value} {vt : Value} {s : PS} {x : σ}
theorem RI.range (h : RI SA B S w b pv vt T s x) : w.rangeAt b 23 (timL s.tim) := by
  intro j v hv
  have hj : j < 32 := by
    have := (List.getElem?_eq_some_iff.1 hv).1
    simpa [timL_length] using this
  have e := timL_get s.tim (j / 4) (j % 4) (by omega) (by omega)
  rw [show j / 4 * 4 + j % 4 = j from by omega, hv] at e
  cases e
  have := h.cell (23 + j / 4 * 4 + j % 4) (by omega)
  rw [img_tim _ _ _ _ _ (by omega) (by omega)] at this
  rw [show 23 + j = 23 + j / 4 * 4 + j % 4 from by omega]
  exact this

/-- slices.Index of a slice of bools in the run struct: is one of them true? -/
def anyB (f : Nat → Bool) : Nat → Bool
  | 0 => false
  | n + 1 => anyB f n || f n
theorem anyB_false (f : Nat → Bool) (n : Nat) (h : ∀ i, i < n → f i = false) : anyB f n = false := by
  induction n with
  | zero => rfl
  | succ n ih => simp [anyB, ih (fun i hi => h i (by omega)), h n (by omega)]
theorem anyB_true (f : Nat → Bool) (n i : Nat) (hi : i < n) (h : f i = true) : anyB f n = true := by
  induction n with
  | zero => omega
  | succ n ih =>
    by_cases e : i = n
    · subst e; simp [anyB, h]
    · simp [anyB, ih (by omega)]

set_option maxHeartbeats 400000 in
theorem index_any (b : Nat) (f : Nat → Bool) (w : World) (hf : ∀ i, i < 8 → w.cell? ⟨b, 56 + i, none⟩ = some (.bool (f i))) :
    Calls Tryz.prog 133 #[.slice (some ⟨b, 56, none⟩) 8 8, .bool true] w fun e w' => (∃ k : Int, e = .returned (.int .i64 k) ∧ decide (0 ≤ k) = anyB f 8) ∧ w' = w := by
  have HF := hide hf
  clear hf
  go_enter Tryz.func133, Tryz.ntmps133
  go_wp2
  go_loop [8] (fun i => ∃ k : Nat, k ≤ 8 ∧ i = .int .i64 k ∧ Hid (∀ j, j < k → f j = false)) (fun i => 8 - (intOf i).toNat)
  case atStart => exact ⟨0, Nat.zero_le _, rfl, fun j hj => absurd hj (Nat.not_lt_zero _)⟩
  case round =>
    obtain ⟨k, hk, rfl, hno⟩ := hrel
    by_cases hlt : k < 8
    · have c := unhide HF k hlt
      cases hv : f k
      · rw [hv] at c
        go_wp2
        go_round
        case rel =>
          refine ⟨k + 1, by omega, by go_num, fun j hj => ?_⟩
          by_cases e : j = k
          · subst e; exact hv
          · exact unhide hno j (by omega)
        case measure => simp [intOf]; omega
      · rw [hv] at c
        go_wp2
        go_ret
        exact ⟨⟨k, rfl, by rw [anyB_true f 8 k hlt hv]; simp⟩, rfl⟩
    · have e := anyB_false f 8 (fun j hj => unhide hno j (by omega))
      have E := hide e
      clear e
      go_wp2
      go_ret
      exact ⟨⟨-1, rfl, by rw [unhide E]; simp⟩, rfl⟩

theorem contains_any (b : Nat) (f : Nat → Bool) (w : World) (hf : ∀ i, i < 8 → w.cell? ⟨b, 56 + i, none⟩ = some (.bool (f i))) :
    Calls Tryz.prog 115 #[.slice (some ⟨b, 56, none⟩) 8 8, .bool true] w fun e w' => e = .returned (.bool (anyB f 8)) ∧ w' = w := by
  have HI := hide (index_any b f w hf)
  clear hf
  go_enter Tryz.func115, Tryz.ntmps115
  go_wp2_with (go_at_call 133; refine (unhide HI).mono ?_; rintro e w' ⟨⟨k, rfl, hk⟩, rfl⟩)
  go_ret
  exact ⟨rfl, rfl⟩

def idleB (s : PS) : Bool := !anyB (fun i => (s.tim i).1) 8 && !anyB s.wat 8

set_option maxHeartbeats 1000000 in
theorem idle_any (L : SrcLaw SA) (h : RI SA B S w b pv vt T s x) :
    Calls Tryz.prog 94 #[.pointer (some ⟨b, 0, none⟩)] w fun e w' => e = .returned (.bool (idleB s)) ∧ RI SA B S w' b pv vt T s x ∧ Fr S w w' S := by
  have hra := hide h.range
  have hlen : (timL s.tim).length = 32 := timL_length _
  have hinf : (Tryz.prog.info? 127).map (·.size) = some (timL s.tim).length := by rw [hlen]; exact info142
  have hix := index_tim s.tim
  have H := hide h
  have HL := hide hinf
  have HX := hide hix
  clear h hinf hix hlen
  generalize hA : timL s.tim = A at *
  have HA := hide hA
  clear hA
  go_enter Tryz.func94, Tryz.ntmps94
  go_wp2_with (refine wpList_load_mid rfl 127 (.tmp 7) rfl b 23 rfl A _ (unhide hra) Tryz.underlying127 rfl (unhide HL) ?_)
  clear HL hra
  go_loopw [9] (fun i wr => ∃ k : Nat, k ≤ 8 ∧ i = .int .i64 k ∧ RI SA B S wr b pv vt T s x ∧ Fr S w wr S ∧ Hid (∀ j, j < k → (s.tim j).1 = false)) (fun i _ => 8 - (intOf i).toNat)
  case atStart => exact ⟨0, Nat.zero_le _, rfl, unhide H, Fr.refl S w, fun j hj => absurd hj (Nat.not_lt_zero _)⟩
  case round =>
    obtain ⟨k, hk, rfl, r1, r2, hno⟩ := hrel
    by_cases hlt : k < 8
    · have ix := fun w => (unhide HX) k hlt w
      have R1 := hide r1
      have R2 := hide r2
      clear r1 r2
      cases hv : (s.tim k).1
      · rw [hv] at ix
        generalize (s.tim k).2 = t2 at ix
        go_wp2
        go_roundw
        case rel =>
          refine ⟨k + 1, by omega, by go_num, (unhide R1).alloc L _, (unhide R2).alloc _, fun j hj => ?_⟩
          by_cases e : j = k
          · subst e; exact hv
          · exact unhide hno j (by omega)
        case measure => simp [intOf]; omega
      · have e : idleB s = false := by
          unfold idleB; rw [anyB_true (fun i => (s.tim i).1) 8 k hlt hv]; rfl
        rw [hv] at ix
        generalize (s.tim k).2 = t2 at ix
        have E := hide e
        clear e
        go_wp2
        go_ret
        exact ⟨ret_bool (unhide E).symm, (unhide R1).alloc L _, (unhide R2).alloc _⟩
    · have e : idleB s = !anyB s.wat 8 := by
        unfold idleB; rw [anyB_false (fun i => (s.tim i).1) 8 (fun j hj => unhide hno j (by omega))]; rfl
      have hc := contains_any b s.wat wr (fun i hi => (r1.cell (56 + i) (by omega)).trans (by rw [img_wat _ _ _ _ hi]))
      have HC := hide hc
      have E := hide e
      have R1 := hide r1
      have R2 := hide r2
      clear e hc r1 r2
      go_wp2_with (go_at_call 115; refine (unhide HC).mono ?_; rintro e w' ⟨rfl, hw'⟩; rw [hw']; clear hw')
      go_ret
      exact ⟨ret_bool (unhide E).symm, unhide R1, unhide R2⟩
end
end Go.Proofs.YtfmbebofllgmoaaGreatDoor
namespace Go.Proofs
open Go.Shelf
def YtfmbebofllgmoaaGreatDoor.sortT_ren : Go.Shelf.Ren := ⟨fun | 6 => 134 | 15 => 144 | 14 => 143 | 28 => 155 | 29 => 156 | 20 => 147 | 21 => 148 | 22 => 149 | 23 => 150 | 24 => 151 | 25 => 152 | 26 => 153 | 27 => 154 | 46 => 159 | 47 => 160 | 48 => 161 | 49 => 162 | 50 => 163 | 57 => 164 | n => n, fun | 22 => 192 | 24 => 126 | 25 => 205 | 3 => 3 | 39 => 184 | 0 => 0 | 53 => 183 | 55 => 222 | 4 => 4 | 46 => 215 | 45 => 214 | 50 => 194 | 5 => 5 | 9 => 9 | 66 => 223 | 70 => 227 | 76 => 229 | 77 => 85 | n => n, fun | n => n⟩
theorem YtfmbebofllgmoaaGreatDoor.sortT : Go.Proofs.SlLaysF0.n6 Tryz.prog YtfmbebofllgmoaaGreatDoor.sortT_ren := {
  mixed := by kernel_rfl
  f6 := ⟨Tryz.f134.name, by decide, Tryz.func134.trans (congrArg some (by kernel_rfl))⟩
  f14 := ⟨Tryz.f143.name, by decide, Tryz.func143.trans (congrArg some (by kernel_rfl))⟩
  f15 := Tryz.func144.trans (congrArg some (by kernel_rfl))
  f20 := ⟨Tryz.f147.name, by decide, Tryz.func147.trans (congrArg some (by kernel_rfl))⟩
  f21 := ⟨Tryz.f148.name, by decide, Tryz.func148.trans (congrArg some (by kernel_rfl))⟩
  f22 := ⟨Tryz.f149.name, by decide, Tryz.func149.trans (congrArg some (by kernel_rfl))⟩
  f23 := ⟨Tryz.f150.name, by decide, Tryz.func150.trans (congrArg some (by kernel_rfl))⟩
  f24 := ⟨Tryz.f151.name, by decide, Tryz.func151.trans (congrArg some (by kernel_rfl))⟩
  f25 := ⟨Tryz.f152.name, by decide, Tryz.func152.trans (congrArg some (by kernel_rfl))⟩
  f26 := ⟨Tryz.f153.name, by decide, Tryz.func153.trans (congrArg some (by kernel_rfl))⟩
  f27 := ⟨Tryz.f154.name, by decide, Tryz.func154.trans (congrArg some (by kernel_rfl))⟩
  f28 := Tryz.func155.trans (congrArg some (by kernel_rfl))
  f29 := Tryz.func156.trans (congrArg some (by kernel_rfl))
  f46 := ⟨Tryz.f159.name, by decide, Tryz.func159.trans (congrArg some (by kernel_rfl))⟩
  f47 := Tryz.func160.trans (congrArg some (by kernel_rfl))
  f48 := Tryz.func161.trans (congrArg some (by kernel_rfl))
  f49 := ⟨Tryz.f162.name, by decide, Tryz.func162.trans (congrArg some (by kernel_rfl))⟩
  f50 := ⟨Tryz.f163.name, by decide, Tryz.func163.trans (congrArg some (by kernel_rfl))⟩
  f57 := ⟨Tryz.f164.name, by decide, Tryz.func164.trans (congrArg some (by kernel_rfl))⟩
  t0 := Tryz.underlying0
  a0 := Tryz.isAgg0
  z0 := Tryz.sizeOf0
  v0 := Tryz.zeroValue0
  t3 := Tryz.underlying3
  a3 := Tryz.isAgg3
  z3 := Tryz.sizeOf3
  v3 := Tryz.zeroValue3
  t4 := Tryz.underlying4
  a4 := Tryz.isAgg4
  z4 := Tryz.sizeOf4
  v4 := Tryz.zeroValue4
  t5 := Tryz.underlying5
  a5 := Tryz.isAgg5
  z5 := Tryz.sizeOf5
  v5 := Tryz.zeroValue5
  t9 := Tryz.underlying9
  a9 := Tryz.isAgg9
  z9 := Tryz.sizeOf9
  v9 := Tryz.zeroValue9
  t22 := Tryz.underlying192
  a22 := Tryz.isAgg192
  z22 := Tryz.sizeOf192
  v22 := Tryz.zeroValue192
  t25 := Tryz.underlying205
  a25 := Tryz.isAgg205
  z25 := Tryz.sizeOf205
  v25 := Tryz.zeroValue205
  t39 := Tryz.underlying184
  a39 := Tryz.isAgg184
  z39 := Tryz.sizeOf184
  v39 := Tryz.zeroValue184
  t45 := Tryz.underlying214
  a45 := Tryz.isAgg214
  z45 := Tryz.sizeOf214
  v45 := Tryz.zeroValue214
  t46 := Tryz.underlying215
  a46 := Tryz.isAgg215
  z46 := Tryz.sizeOf215
  v46 := Tryz.zeroValue215
  t50 := Tryz.underlying194
  a50 := Tryz.isAgg194
  z50 := Tryz.sizeOf194
  v50 := Tryz.zeroValue194
  t53 := Tryz.underlying183
  a53 := Tryz.isAgg183
  z53 := Tryz.sizeOf183
  v53 := Tryz.zeroValue183
  t55 := Tryz.underlying222
  a55 := Tryz.isAgg222
  z55 := Tryz.sizeOf222
  v55 := Tryz.zeroValue222
  t66 := Tryz.underlying223
  a66 := Tryz.isAgg223
  z66 := Tryz.sizeOf223
  v66 := Tryz.zeroValue223
  t70 := Tryz.underlying227
  a70 := Tryz.isAgg227
  z70 := Tryz.sizeOf227
  v70 := Tryz.zeroValue227
  t76 := Tryz.underlying229
  a76 := Tryz.isAgg229
  z76 := Tryz.sizeOf229
  v76 := Tryz.zeroValue229
  t77 := Tryz.underlying85
  a77 := Tryz.isAgg85
  z77 := Tryz.sizeOf85
  v77 := Tryz.zeroValue85 }
def YtfmbebofllgmoaaGreatDoor.cmpInt_ren : Go.Shelf.Ren := ⟨fun | 5 => 137 | 7 => 145 | n => n, fun | 22 => 3 | 3 => 3 | 4 => 4 | n => n, fun | n => n⟩
theorem YtfmbebofllgmoaaGreatDoor.cmpInt : Go.Proofs.SlLaysC2.n5 Tryz.prog YtfmbebofllgmoaaGreatDoor.cmpInt_ren := {
  mixed := by kernel_rfl
  f5 := ⟨Tryz.f137.name, by decide, Tryz.func137.trans (congrArg some (by kernel_rfl))⟩
  f7 := ⟨Tryz.f145.name, by decide, Tryz.func145.trans (congrArg some (by kernel_rfl))⟩
  t3 := Tryz.underlying3
  a3 := Tryz.isAgg3
  z3 := Tryz.sizeOf3
  v3 := Tryz.zeroValue3
  t4 := Tryz.underlying4
  a4 := Tryz.isAgg4
  z4 := Tryz.sizeOf4
  v4 := Tryz.zeroValue4
  t22 := Tryz.underlying3
  a22 := Tryz.isAgg3
  z22 := Tryz.sizeOf3
  v22 := Tryz.zeroValue3 }
def YtfmbebofllgmoaaGreatDoor.bitsLen2_ren : Go.Shelf.Ren := ⟨fun | 125 => 144 | 128 => 155 | 129 => 156 | n => n, fun | 46 => 184 | 3 => 3 | 51 => 183 | 53 => 222 | 4 => 4 | 5 => 5 | 9 => 9 | n => n, fun | n => n⟩
theorem YtfmbebofllgmoaaGreatDoor.bitsLen2 : Go.Proofs.Lays.n125 Tryz.prog YtfmbebofllgmoaaGreatDoor.bitsLen2_ren := {
  mixed := by kernel_rfl
  f125 := Tryz.func144.trans (congrArg some (by kernel_rfl))
  f128 := Tryz.func155.trans (congrArg some (by kernel_rfl))
  f129 := Tryz.func156.trans (congrArg some (by kernel_rfl))
  t3 := Tryz.underlying3
  a3 := Tryz.isAgg3
  z3 := Tryz.sizeOf3
  v3 := Tryz.zeroValue3
  t4 := Tryz.underlying4
  a4 := Tryz.isAgg4
  z4 := Tryz.sizeOf4
  v4 := Tryz.zeroValue4
  t5 := Tryz.underlying5
  a5 := Tryz.isAgg5
  z5 := Tryz.sizeOf5
  v5 := Tryz.zeroValue5
  t9 := Tryz.underlying9
  a9 := Tryz.isAgg9
  z9 := Tryz.sizeOf9
  v9 := Tryz.zeroValue9
  t46 := Tryz.underlying184
  a46 := Tryz.isAgg184
  z46 := Tryz.sizeOf184
  v46 := Tryz.zeroValue184
  t51 := Tryz.underlying183
  a51 := Tryz.isAgg183
  z51 := Tryz.sizeOf183
  v51 := Tryz.zeroValue183
  t53 := Tryz.underlying222
  a53 := Tryz.isAgg222
  z53 := Tryz.sizeOf222
  v53 := Tryz.zeroValue222 }
end Go.Proofs
namespace Go.Proofs.YtfmbebofllgmoaaGreatDoor
open Go.Shelf Go.RowKit Go.Lib Go.Sort
attribute [local go_sem ↓] Go.wp_at_zero Go.wp_at_succ

def encT (t : TM) : List Value := [.bool t.1, .int .i64 t.2.1, .int .i64 t.2.2.1, .int .i64 t.2.2.2]

def orI (a b : Int) : Int := if a = 0 then b else a
def cfT (x y : TM) : Int := orI (Lib.compareInt x.2.1 y.2.1) (Lib.compareInt x.2.2.1 y.2.2.1)
def OrRel (w : World) (a b : Int) (i : Value) (wr : World) : Prop := wr = w ∧ (i = .int .i64 0 ∨ (i = .int .i64 1 ∧ a = 0) ∨ (i = .int .i64 2 ∧ a = 0 ∧ b = 0))
set_option maxHeartbeats 1000000 in
theorem or_two (B : Nat) (a b : Int) (w : World) (h0 : w.cell? ⟨B, 0, none⟩ = some (.int .i64 a)) (h1 : w.cell? ⟨B, 1, none⟩ = some (.int .i64 b)) :
    Calls Tryz.prog 136 #[.slice (some ⟨B, 0, none⟩) 2 2] w fun e w' => e = .returned (.int .i64 (orI a b)) ∧ w' = w := by
  unfold orI
  go_enter Tryz.func136, Tryz.ntmps136
  go_wp2
  go_loopw [8] (fun i wr => OrRel w a b i wr) (fun i _ => 2 - (intOf i).toNat)
  case atStart => exact ⟨rfl, .inl rfl⟩
  case round =>
    obtain ⟨rfl, rfl | ⟨rfl, rfl⟩ | ⟨rfl, rfl, rfl⟩⟩ := hrel
    · by_cases ha : a = 0
      · subst ha
        go_wp2
        go_roundw
        case rel => exact ⟨rfl, .inr (.inl ⟨rfl, rfl⟩)⟩
        case measure => simp [intOf]
      · have hne : (a == 0) = false := by simpa using ha
        go_wp2
        go_ret
        exact ⟨rfl, rfl⟩
    · by_cases ha : b = 0
      · subst ha
        go_wp2
        go_roundw
        case rel => exact ⟨rfl, .inr (.inr ⟨rfl, rfl, rfl⟩)⟩
        case measure => simp [intOf]
      · have hne : (b == 0) = false := by simpa using ha
        go_wp2
        go_ret
        exact ⟨rfl, rfl⟩
    · go_wp2
      go_ret
      exact ⟨rfl, rfl⟩

theorem cell_top (w : World) (o1 o2 : Obj) (a b : Value) (j : Nat) (v : Value) (hj : #[a, b][j]? = some v) : (((w.alloc o1).alloc o2).alloc (.cells #[a, b] 3)).drew.cell? ⟨w.heap.size + 1 + 1, j, none⟩ = some v := by
  have h : (((w.alloc o1).alloc o2).alloc (.cells #[a, b] 3)).drew.heap[w.heap.size + 1 + 1]? = some (.cells #[a, b] 3) := by
    have := heap_alloc_new ((w.alloc o1).alloc o2) (.cells #[a, b] 3)
    have e : ((w.alloc o1).alloc o2).heap.size = w.heap.size + 1 + 1 := by simp
    rw [e] at this
    exact this
  rw [cell_of_row _ _ j _ 3 (0, 0) h]
  exact hj
theorem three_grow (W : World) (a b c : Obj) : (((W.alloc a).alloc b).alloc c).drew = grow (W.drewN 1) #[a, b, c] := by
  have h : (((W.alloc a).alloc b).alloc c).drew = (((W.drewN 1).alloc a).alloc b).alloc c := rfl
  rw [h, alloc_eq_grow, alloc_eq_grow, alloc_eq_grow, grow_grow, grow_grow]
  rfl
set_option maxHeartbeats 2000000 in
set_option maxRecDepth 100000 in
theorem closure103 (x y : TM) (W : World) : Calls Tryz.prog 135 #[.agg (encT x).toArray, .agg (encT y).toArray] W fun e w' => e = .returned (.int .i64 (cfT x y)) ∧ ∃ q os', w' = grow (W.drewN q) os' := by
  have hcon := fun a b W' => AnyG.cmp_Compare_int cmpInt a b W'
  change ∀ a b W', Calls Tryz.prog 137 _ _ _ at hcon
  obtain ⟨x0, x1, x2, x3⟩ := x
  obtain ⟨y0, y1, y2, y3⟩ := y
  simp only [encT, cfT]
  generalize Lib.compareInt = cf at *
  go_enter Tryz.func135, Tryz.ntmps135
  go_wp2
  go_region_held3 (fun w' => w'.cell? ⟨W.heap.size, 1, none⟩ = some (.int .i64 x1) ∧ w'.cell? ⟨W.heap.size, 2, none⟩ = some (.int .i64 x2) ∧ w'.cell? ⟨W.heap.size + 1, 1, none⟩ = some (.int .i64 y1) ∧ w'.cell? ⟨W.heap.size + 1, 2, none⟩ = some (.int .i64 y2)) (simp [go_sem, World.cell?_alloc_past]) (first | (go_at_call 137; refine (hcon _ _ _).mono ?_; rintro e w' ⟨rfl, rfl⟩) | (go_at_call 136; refine (or_two _ (cf x1 y1) (cf x2 y2) _ (cell_top _ _ _ _ _ 0 _ rfl) (cell_top _ _ _ _ _ 1 _ rfl)).mono ?_; rintro e w' ⟨rfl, rfl⟩))
  go_wp2
  go_ret
  exact ⟨rfl, 1, _, three_grow W _ _ _⟩

theorem cmpLays103 (blk off size : Nat) (w : World) : CmpLays Tryz.prog 135 #[] encT 4 cfT blk off size w := fun _ _ _ _ x y => closure103 x y _

theorem hlen2 (n : Nat) (W : World) (h : n ≤ 12) : Calls Tryz.prog 144 #[.int .u64 n] W fun e w' => (∃ l : Int, e = .returned (.int .i64 l)) ∧ w' = W :=
  (Any.bits_Len bitsLen2 n W (by omega) (by omega)).mono fun _ _ ⟨he, hw⟩ => ⟨⟨_, he⟩, hw⟩

/-- slices.SortFunc over timers, twelve or fewer. -/
theorem sort_any (blk off cap : Nat) (d : Array TM) (w : World) (hH : HoldsK encT 4 w blk off d) (hblk : blk < w.heap.size) (h12 : d.size ≤ 12) :
    Calls Tryz.prog 134 #[.slice (some ⟨blk, off, none⟩) d.size cap, .func (.func 135) #[] #[]] w fun e w' => e = .returned (.tuple #[]) ∧ ∃ n os, w' = sortWorldK encT 4 w blk off n (Sort.insertionSort (ltOf cfT) d 0 d.size) os := by
  have eg : ∀ args w, (callFunc 135 args).run Tryz.prog w = .ok (.enter 135 args) w := enters_of Tryz.func135 (by kernel_rfl) rfl
  exact AnyQ.slices_SortFunc_small sortT 4 Tryz.isAgg126 Tryz.sizeOf126 encT (fun _ => rfl) (fun x v hv => by simp [encT] at hv; rcases hv with rfl | rfl | rfl | rfl <;> rfl) cfT 135 #[] blk off cap d w eg (cmpLays103 blk off d.size w) hH hblk h12 hlen2
end Go.Proofs.YtfmbebofllgmoaaGreatDoor
namespace Go.Proofs.YtfmbebofllgmoaaGreatDoor
open Go.RowKit Go.Sort
attribute [local go_sem ↓] Go.wp_at_zero Go.wp_at_succ
set_option maxHeartbeats 1000000 in
theorem insertion_nil (fv : Value) (w : World) : Calls Tryz.prog 147 #[.slice none 0 0, .int .i64 0, .int .i64 0, fv] w fun e w' => e = .returned (.tuple #[]) ∧ w' = w := by
  go_enter Tryz.func147, Tryz.ntmps147
  go_wp2
  go_loopw [8] (fun i wr => i = .int .i64 1 ∧ wr = w) (fun _ _ => 0)
  case atStart => exact ⟨rfl, rfl⟩
  case round =>
    obtain ⟨rfl, rfl⟩ := hrel
    go_wp2
    go_end0
    exact ⟨rfl, rfl⟩
set_option maxHeartbeats 2000000 in
theorem pdq_nil (lim : Int) (fv : Value) (w : World) : Calls Tryz.prog 143 #[.slice none 0 0, .int .i64 0, .int .i64 0, .int .i64 lim, fv] w fun e w' => e = .returned (.tuple #[]) ∧ w' = w := by
  have h := insertion_nil fv
  go_enter Tryz.func143, Tryz.ntmps143
  go_wp2
  go_loopw [1, 2] (fun i j wr => i = .int .i64 0 ∧ j = .int .i64 0 ∧ wr = w) (fun _ _ _ => 0)
  case atStart => exact ⟨rfl, rfl, rfl⟩
  case round =>
    obtain ⟨rfl, rfl, rfl⟩ := hrel
    go_wp2_with (go_at_call 147; refine (h _).mono ?_; rintro e w' ⟨rfl, rfl⟩)
    refine bodyPost_ret (v := .tuple #[]) (by simp [results, Tryz.results143, go_sem]) rfl ?_
    exact ⟨rfl, rfl⟩
theorem sort_nil (fv : Value) (w : World) : Calls Tryz.prog 134 #[.slice none 0 0, fv] w fun e w' => e = .returned (.tuple #[]) ∧ w' = w := by
  have hl := fun W => hlen2 0 W (by omega)
  simp only [Int.natCast_zero] at hl
  have hp := fun lim W => pdq_nil lim fv W
  go_enter Tryz.func134, Tryz.ntmps134
  go_wp2_with (first | (go_at_call 144; refine (hl _).mono ?_; rintro e w' ⟨⟨lim, rfl⟩, rfl⟩) | (go_at_call 143; refine (hp _ _).mono ?_; rintro e w' ⟨rfl, rfl⟩))
  go_end0
  exact ⟨rfl, rfl⟩
theorem ltT (x y : TM) : ltOf cfT x y = true ↔ (x.2.1 < y.2.1 ∨ (x.2.1 = y.2.1 ∧ x.2.2.1 < y.2.2.1)) := by
  unfold ltOf cfT orI Lib.compareInt
  by_cases h1 : x.2.1 < y.2.1
  · simp [h1]
  · by_cases h2 : y.2.1 < x.2.1
    · simp [h1, h2]; omega
    · have h3 : x.2.1 = y.2.1 := by omega
      by_cases h4 : x.2.2.1 < y.2.2.1
      · simp [h3, h4]
      · by_cases h5 : y.2.2.1 < x.2.2.1 <;> simp [h3, h4, h5]
theorem ltF (x y : TM) : ltOf cfT x y = false ↔ ¬ (x.2.1 < y.2.1 ∨ (x.2.1 = y.2.1 ∧ x.2.2.1 < y.2.2.1)) := by
  rw [← ltT]; simp
theorem swoT : SWO (ltOf cfT) where
  irrefl x := by rw [ltF]; omega
  trans x y z h1 h2 := by rw [ltT] at *; omega
  ntrans x y z h1 h2 := by rw [ltF] at *; omega

theorem sorted_size (d : Array TM) : (Sort.insertionSort (ltOf cfT) d 0 d.size).size = d.size := (insertionSort_holds (lt := ltOf cfT) swoT d 0 d.size (Nat.zero_le _) (Nat.le_refl _)).1.1

theorem sortWorld_block (w : World) (blk off n : Nat) (d : Array TM) (os : Array Obj) (q : Nat) (hq : q < w.heap.size) (hne : q ≠ blk) : (sortWorldK encT 4 w blk off n d os).heap[q]? = w.heap[q]? := by
  show ((w.heap.modify blk _) ++ os)[q]? = w.heap[q]?
  rw [Array.getElem?_append_left (by simpa using hq), Array.getElem?_modify, if_neg (Ne.symm hne)]
theorem sortWorld_size (w : World) (blk off n : Nat) (d : Array TM) (os : Array Obj) : w.heap.size ≤ (sortWorldK encT 4 w blk off n d os).heap.size := by
  show w.heap.size ≤ ((w.heap.modify blk _) ++ os).size
  simp
theorem sortWorld_holds (w : World) (blk n : Nat) (d d' : Array TM) (os : Array Obj) (hb : blk < w.heap.size) (h : HoldsK encT 4 w blk 0 d) (hs : d'.size = d.size) : HoldsK encT 4 (sortWorldK encT 4 w blk 0 n d' os) blk 0 d' := by
  unfold sortWorldK
  exact holdsK_grow _ _ _ _ _ _ _ (by unfold putRowK; simpa using hb) (holdsK_putRowK _ _ _ _ _ d d' (holdsK_ahead _ _ _ _ _ _ _ h) hs)
end Go.Proofs.YtfmbebofllgmoaaGreatDoor
namespace Go.Proofs.YtfmbebofllgmoaaGreatDoor
open Go.RowKit Go.Sort
attribute [local go_sem ↓] Go.wp_at_zero Go.wp_at_succ

theorem info141 : ∃ i, Tryz.prog.info? 126 = some i ∧ i.zero = some (.agg #[.bool false, .int .i64 0, .int .i64 0, .int .i64 0]) ∧ i.size = 4 ∧ i.bytes = 32 := by
  have h : (Tryz.prog.info? 126).map (fun i => (i.zero, i.size, i.bytes)) = some (some (.agg #[.bool false, .int .i64 0, .int .i64 0, .int .i64 0]), 4, 32) := by kernel_rfl
  cases hi : Tryz.prog.info? 126 with
  | none => rw [hi] at h; cases h
  | some i =>
    rw [hi] at h
    simp only [Option.map_some, Option.some.injEq, Prod.mk.injEq] at h
    exact ⟨i, rfl, h.1, h.2.1, h.2.2⟩

def flatT : List TM → List Value
  | [] => []
  | t :: r => encT t ++ flatT r
theorem flatT_append (a b : List TM) : flatT (a ++ b) = flatT a ++ flatT b := by
  induction a with
  | nil => rfl
  | cons x r ih => simp [flatT, ih]
theorem flatT_length (a : List TM) : (flatT a).length = a.length * 4 := by
  induction a with
  | nil => rfl
  | cons x r ih => simp [flatT, ih, encT]; omega
theorem flatT_get (a : List TM) (i c : Nat) (hi : i < a.length) (hc : c < 4) : (flatT a)[i * 4 + c]? = (encT (a.getD i (false, 0, 0, 0)))[c]? := by
  induction a generalizing i with
  | nil => simp at hi
  | cons x r ih =>
    cases i with
    | zero =>
      rw [flatT, List.getElem?_append_left (by simp [encT]; omega)]
      simp
    | succ i =>
      rw [flatT, List.getElem?_append_right (by simp [encT]; omega)]
      have e : (i + 1) * 4 + c - (encT x).length = i * 4 + c := by simp [encT]; omega
      rw [e, ih i (by simpa using hi)]
      simp
/-- A list of timers of the call's own. -/
def OwnT (w : World) (B : Nat) (v : Value) (l : List TM) : Prop := w.ownsRow B 126 4 v l.length (flatT l)

theorem wpList_timer {ops : Array Oper} {rest : List Oper} {o : Oper} {a : Act} {Q : Exit → Act → World → Prop} {w : World} {B : Nat} {v : Value} {l : List TM} (hgd : o.guard = none) (sv xv : Operand)
    (ho : o.op = .call { callee := .builtin .append, args := #[sv, xv], argTypes := #[192, 192] }) {p : Bool} {x y z : Int}
    (hs : a.eval sv = v) (hx : a.eval xv = .slice (some ⟨w.heap.size, 0, none⟩) 1 1) (hrow : OwnT w B v l) (hn : l.length ≤ 1000) (hB : B ≤ w.heap.size)
    (h : ∀ v' w', OwnT w' B v' (l ++ [(p, x, y, z)]) → (w.alloc (.cells #[.bool p, .int .i64 x, .int .i64 y, .int .i64 z] 126)).grownBy w' v.ownBlock → wpList Tryz.prog ops Q rest (a.put o.dst v') w') :
    wpList Tryz.prog ops Q (o :: rest) a (w.alloc (.cells #[.bool p, .int .i64 x, .int .i64 y, .int .i64 z] 126)) := by
  obtain ⟨i, hi, hz, hs1, hby⟩ := info141
  have hb' : B ≤ (w.alloc (.cells #[.bool p, .int .i64 x, .int .i64 y, .int .i64 z] 126)).heap.size := by simp; omega
  have hm : l.length + 1 ≤ maxLen := by simp only [maxLen]; omega
  have hby' : (l.length + 1) * 32 ≤ 140737488355328 := by omega
  have hone : ∀ u ∈ [Value.bool p, .int .i64 x, .int .i64 y, .int .i64 z], u.oneCell' = true := by simp [Value.oneCell']
  have hsz : (w.alloc (.cells #[.bool p, .int .i64 x, .int .i64 y, .int .i64 z] 126)).heap.size = w.heap.size + 1 := by simp
  refine wpList_append_lies _ hgd sv xv 192 ho B 126 i _ 4 32 Tryz.underlying192 hi hz hs1 hby rfl (by omega) v l.length _ hs (hrow.alloc _) ⟨w.heap.size, 0, none⟩ 1 1 [.bool p, .int .i64 x, .int .i64 y, .int .i64 z] hx rfl
    (World.news_of_block (heap_alloc_new w _)) hone (by omega) hm hby' hb' (w.heap.size + 1) hsz ?_
  intro g cap w' h1 h2 _ _
  refine h _ w' ?_ h2
  unfold OwnT
  rw [List.length_append, flatT_append]
  exact h1

/-- The first k timers, those of them that are armed and due. -/
def dueK (s : PS) (k : Nat) : List TM := ((List.range k).map s.tim).filter fun t => t.1 && decide (t.2.1 ≤ s.clock)
theorem dueK_succ (s : PS) (k : Nat) : dueK s (k + 1) = dueK s k ++ (if (s.tim k).1 && decide ((s.tim k).2.1 ≤ s.clock) then [s.tim k] else []) := by
  unfold dueK
  rw [List.range_succ, List.map_append, List.filter_append]
  congr 1
  simp [List.filter_cons]
theorem dueK_length (s : PS) (k : Nat) : (dueK s k).length ≤ k := by
  unfold dueK
  have := List.length_filter_le (fun t : TM => t.1 && decide (t.2.1 ≤ s.clock)) ((List.range k).map s.tim)
  simpa using this
/-- The timers that are due, in the order in which they go off. -/
def dueS (s : PS) : List TM := (Sort.insertionSort (ltOf cfT) (dueK s 8).toArray 0 (dueK s 8).length).toList

/-- A list of timers in memory, in a block of P. -/
def TimsIn (w : World) (v : Value) (l : List TM) (P : Nat → Prop) : Prop :=
  ∃ a c, v = .slice a l.length c ∧ (l = [] ∨ ∃ g, a = some ⟨g, 0, none⟩ ∧ P g ∧ ∀ i, i < l.length → ∀ c, c < 4 → w.cell? ⟨g, i * 4 + c, none⟩ = some (timV (l.getD i (false, 0, 0, 0)) c))

theorem OwnT.drewN {w : World} {B n : Nat} {v : Value} {l : List TM} (h : OwnT w B v l) : OwnT (w.drewN n) B v l := h
theorem box4 (w : World) (p : Bool) (x y z : Int) (n : Nat) : ((w.alloc (.cells #[.bool p, .int .i64 x, .int .i64 y, .int .i64 z] 126)).drewN n).cell? ⟨w.heap.size, 0, none⟩ = some (.bool p) ∧
    ((w.alloc (.cells #[.bool p, .int .i64 x, .int .i64 y, .int .i64 z] 126)).drewN n).cell? ⟨w.heap.size, 1, none⟩ = some (.int .i64 x) ∧
    ((w.alloc (.cells #[.bool p, .int .i64 x, .int .i64 y, .int .i64 z] 126)).drewN n).cell? ⟨w.heap.size, 2, none⟩ = some (.int .i64 y) ∧
    ((w.alloc (.cells #[.bool p, .int .i64 x, .int .i64 y, .int .i64 z] 126)).drewN n).cell? ⟨w.heap.size, 3, none⟩ = some (.int .i64 z) := by
  have h : ((w.alloc (.cells #[.bool p, .int .i64 x, .int .i64 y, .int .i64 z] 126)).drewN n).heap[w.heap.size]? = some (.cells #[.bool p, .int .i64 x, .int .i64 y, .int .i64 z] 126) := heap_alloc_new w _
  exact ⟨cell_of_row _ _ 0 _ 126 (0, 0) h, cell_of_row _ _ 1 _ 126 (0, 0) h, cell_of_row _ _ 2 _ 126 (0, 0) h, cell_of_row _ _ 3 _ 126 (0, 0) h⟩

theorem encT_get (t : TM) (c : Nat) (hc : c < 4) : (encT t)[c]? = some (timV t c) := by
  have h : c = 0 ∨ c = 1 ∨ c = 2 ∨ c = 3 := by omega
  rcases h with rfl | rfl | rfl | rfl <;> rfl
theorem holds_of_own {w : World} {B g n cap : Nat} {l : List TM} (h : OwnT w B (.slice (some ⟨g, 0, none⟩) n cap) l) : HoldsK encT 4 w g 0 l.toArray ∧ g < w.heap.size ∧ B ≤ g := by
  rcases h.2 with ⟨hv, _⟩ | ⟨g', cap', cur, hv, hB, hg, h1, h2, h3, h4⟩
  · cases hv
  cases hv
  refine ⟨fun j hj => ?_, (h.lt g rfl).2, hB⟩
  have hj' : j < l.length * 4 := by simpa using hj
  rw [Nat.zero_add, get_flatK _ _ _ _ (by simpa using hj')]
  have hf := flatT_get l (j / 4) (j % 4) (by omega) (by omega)
  rw [show j / 4 * 4 + j % 4 = j by omega, encT_get _ _ (by omega)] at hf
  constructor
  · rw [cell_of_row w g j cur 126 (0, 0) hg]
    have h5 := congrArg (fun q : List Value => q[j]?) h4
    simp only [List.getElem?_take, hj', if_true, Array.getElem?_toList] at h5
    rw [h5, hf]
    have e1 : l.toArray[j / 4]! = l.getD (j / 4) (false, 0, 0, 0) := by
      have : j / 4 < l.length := by omega
      simp [List.getD, this]
    rw [e1]
    have e2 := encT_get (l.getD (j / 4) (false, 0, 0, 0)) (j % 4) (by omega)
    simp only [id]
    rw [List.getElem!_eq_getElem?_getD, e2]
    rfl
  · simp [World.frozen?, hg]
theorem tims_of_holds {w : World} {g cap : Nat} {d : Array TM} {P : Nat → Prop} (h : HoldsK encT 4 w g 0 d) (hP : P g) : TimsIn w (.slice (some ⟨g, 0, none⟩) d.size cap) d.toList P := by
  refine ⟨some ⟨g, 0, none⟩, cap, by simp, .inr ⟨g, rfl, hP, fun i hi c hc => ?_⟩⟩
  have h1 := (h.cell (i := i) (c := c) (by simpa using hi) hc).1
  rw [Nat.zero_add] at h1
  rw [h1, List.getElem!_eq_getElem?_getD, encT_get _ _ hc]
  have e1 : d[i]! = d.toList.getD i (false, 0, 0, 0) := by
    have : i < d.size := by simpa using hi
    simp [List.getD, this]
  rw [e1]
  rfl

section
variable {σ : Type} {SA : (Nat → Prop) → World → σ → Prop} {B : Nat} {S T : Nat → Prop} {w : World} {b : Nat} {pv : Nat → Value} {vt : Value} {s : PS} {x : σ}

set_option maxHeartbeats 2000000 in
theorem due_any (L : SrcLaw SA) (h : RI SA B S w b pv vt T s x) :
    Calls Tryz.prog 116 #[.pointer (some ⟨b, 0, none⟩)] w fun e w' => ∃ v, e = .returned v ∧ TimsIn w' v (dueS s) (fun g => w.heap.size ≤ g ∧ g < w'.heap.size ∧ ¬ S g) ∧ RI SA B S w' b pv vt T s x ∧ Fr S w w' S := by
  have hra := hide h.range
  have hlen : (timL s.tim).length = 32 := timL_length _
  have hinf : (Tryz.prog.info? 127).map (·.size) = some (timL s.tim).length := by rw [hlen]; exact info142
  have hix := index_tim s.tim
  have hSz : ∀ k, S k → k < w.heap.size := fun k hk => (h.bound k hk).2
  have H := hide h
  have HL := hide hinf
  have HX := hide hix
  have HZ := hide hSz
  clear h hinf hix hlen hSz
  generalize hA : timL s.tim = A at *
  have HA := hide hA
  clear hA
  go_enter Tryz.func116, Tryz.ntmps116
  go_wp2_with (refine wpList_load_mid rfl 127 (.tmp 8) rfl b 23 rfl A _ (unhide hra) Tryz.underlying127 rfl (unhide HL) ?_)
  clear HL hra
  go_loopw [3, 10] (fun u i wr => ∃ k : Nat, k ≤ 8 ∧ i = .int .i64 k ∧ OwnT wr w.heap.size u (dueK s k) ∧ RI SA B S wr b pv vt T s x ∧ Fr S w wr S) (fun _ i _ => 8 - (intOf i).toNat)
  case atStart => exact ⟨0, Nat.zero_le _, rfl, World.ownsRow_nil _ _ _ _, unhide H, Fr.refl S w⟩
  case round =>
    obtain ⟨k, hk, rfl, ho, r1, r2⟩ := hrel
    by_cases hlt : k < 8
    · have ix := fun w => (unhide HX) k hlt w
      have hsu := dueK_succ s k
      have hle := dueK_length s k
      have cc := (r1.cell 22 (by omega)).trans (by rw [img_clock])
      have hbw := (r1.bound b r1.inB).2
      obtain ⟨n1, n2⟩ := ne_size hbw
      have hsz : w.heap.size ≤ wr.heap.size := r2.size
      have HNE := hide (ho.lt)
      have HO := hide ho
      have R1 := hide r1
      have R2 := hide r2
      have HSU := hide hsu
      have HLE := hide hle
      clear r1 r2 ho hsu hle
      generalize hgt : s.tim k = t at *
      obtain ⟨t0, t1, t2, t3⟩ := t
      simp only at ix
      have HGT := hide hgt
      clear hgt
      cases t0
      · go_wp2
        go_quiet (fail)
        go_wp2
        go_roundw
        case rel =>
          refine ⟨k + 1, by omega, by go_num, ?_, ((unhide R1).alloc L _).drewN L nq, ((unhide R2).alloc _).drewN nq⟩
          rw [unhide HSU]
          simp only [Bool.false_and, Bool.false_eq_true, if_false, List.append_nil]
          exact ((unhide HO).alloc _)
        case measure => simp [intOf]; omega
      · by_cases hdue : t1 ≤ s.clock
        · have hd : decide (t1 ≤ s.clock) = true := by simpa using hdue
          go_wp2
          go_quiet (fail)
          obtain ⟨e0, e1, e2, e3⟩ := box4 wr true t1 t2 t3 nq
          have q1 := hide (((unhide R1).alloc L (.cells #[.bool true, .int .i64 t1, .int .i64 t2, .int .i64 t3] 126)).drewN L nq)
          have q2 := hide (((unhide R2).alloc (.cells #[.bool true, .int .i64 t1, .int .i64 t2, .int .i64 t3] 126)).drewN nq)
          have q3 := hide (show OwnT ((wr.alloc (.cells #[.bool true, .int .i64 t1, .int .i64 t2, .int .i64 t3] 126)).drewN nq) w.heap.size u3 (dueK s k) from (unhide HO).alloc _)
          generalize (wr.alloc (.cells #[.bool true, .int .i64 t1, .int .i64 t2, .int .i64 t3] 126)).drewN nq = W1 at *
          have hsz1 : w.heap.size ≤ W1.heap.size := (unhide q2).size
          go_wp2_with (at_builtin; refine wpList_timer rfl (.tmp 24) (.tmp 26) rfl rfl rfl (unhide q3) (by have := unhide HLE; omega) hsz1 ?_; intro v' w' o' g')
          go_roundw
          case rel =>
            have hro : ∀ j, Value.ownBlock u3 = some j → w.heap.size ≤ j := fun j hj => ((unhide HNE) j hj).1
            refine ⟨k + 1, by omega, by go_num, ?_, ((unhide q1).alloc L _).grown L g' (fun j hj hs => ?_), ((unhide q2).alloc _).grown g' hro⟩
            · rw [unhide HSU, hd]
              simpa using o'
            · have h1 := hro j hj
              have h2 := unhide HZ j hs
              omega
          case measure => simp [intOf]; omega
        · have hd : decide (t1 ≤ s.clock) = false := by simpa using hdue
          go_wp2
          go_quiet (fail)
          go_wp2
          go_roundw
          case rel =>
            refine ⟨k + 1, by omega, by go_num, ?_, ((unhide R1).alloc L _).drewN L nq, ((unhide R2).alloc _).drewN nq⟩
            rw [unhide HSU, hd]
            simp only [Bool.and_false, Bool.false_eq_true, if_false, List.append_nil]
            exact ((unhide HO).alloc _)
          case measure => simp [intOf]; omega
    · obtain rfl : k = 8 := by omega
      have hsh : (u3 = .slice none 0 0 ∧ (dueK s 8).length = 0) ∨ ∃ g cap, u3 = .slice (some ⟨g, 0, none⟩) (dueK s 8).length cap := by
        rcases ho.2 with hv | ⟨g, cap, cur, hv, _⟩
        · exact .inl hv
        · exact .inr ⟨g, cap, hv⟩
      rcases hsh with ⟨rfl, h0⟩ | ⟨g, cap, rfl⟩
      · have hd : dueS s = [] := by
          have h1 := List.length_eq_zero_iff.1 h0
          unfold dueS
          have h2 := sorted_size (dueK s 8).toArray
          rw [h1] at h2 ⊢
          exact List.length_eq_zero_iff.1 h2
        have R1 := hide r1
        have R2 := hide r2
        have HD := hide hd
        have hs := fun fv => sort_nil fv wr
        have HS := hide hs
        clear r1 r2 ho h0 hd hs
        go_wp2_with (go_at_call 134; refine (unhide HS _).mono ?_; rintro e w' ⟨rfl, rfl⟩)
        go_ret
        exact ⟨_, rfl, ⟨none, 0, by rw [unhide HD]; rfl, .inl (unhide HD)⟩, unhide R1, unhide R2⟩
      · obtain ⟨hh, hg, hB⟩ := holds_of_own ho
        have hs := sort_any g 0 cap (dueK s 8).toArray wr hh hg (by have := dueK_length s 8; simp; omega)
        have hz := sorted_size (dueK s 8).toArray
        have hgS : ¬ S g := fun hs => by have := (unhide HZ) g hs; omega
        have R1 := hide r1
        have R2 := hide r2
        have HS := hide hs
        have HH := hide hh
        have hds : dueS s = (Sort.insertionSort (ltOf cfT) (dueK s 8).toArray 0 (dueK s 8).toArray.size).toList := rfl
        generalize Sort.insertionSort (ltOf cfT) (dueK s 8).toArray 0 (dueK s 8).toArray.size = d' at *
        have hlen : (dueK s 8).length = d'.size := by simpa using hz.symm
        have HD := hide hds
        have HZS := hide hz
        have HLN := hide hlen
        clear r1 r2 ho hs hh hz hds hlen
        go_wp2_with (go_at_call 134; refine (unhide HS).mono ?_; rintro e w' ⟨rfl, n, os, hw'⟩; have HW := hide hw'; clear hw')
        go_ret
        obtain rfl := unhide HW
        have hsz := sortWorld_size wr g 0 n d' os
        have hbl := sortWorld_block wr g 0 n d' os
        have hfr : Fr S w (sortWorldK encT 4 wr g 0 n d' os) S := by
          have r2 := unhide R2
          exact ⟨r2.os, r2.tape, r2.output, Nat.le_trans r2.size hsz, fun q hq hn => (hbl q (Nat.lt_of_lt_of_le hq r2.size) (by omega)).trans (r2.same q hq hn), r2.old⟩
        refine ⟨_, rfl, ?_, (unhide R1).kept L (fun q hq => hbl q ((unhide R1).bound q hq).2 (fun e => hgS (e ▸ hq))) hsz, hfr⟩
        have ht := tims_of_holds (cap := cap) (P := fun q => w.heap.size ≤ q ∧ q < (sortWorldK encT 4 wr g 0 n d' os).heap.size ∧ ¬ S q) (sortWorld_holds wr g n _ d' os hg (unhide HH) (unhide HZS)) ⟨hB, Nat.lt_of_lt_of_le hg hsz, hgS⟩
        rw [unhide HD, unhide HLN]
        exact ht
end
end Go.Proofs.YtfmbebofllgmoaaGreatDoor
namespace Go.Proofs.YtfmbebofllgmoaaGreatDoor
open Go.RowKit
attribute [local go_sem ↓] Go.wp_at_zero Go.wp_at_succ

/-- What is heard of one question. -/
def hdS (s : PS) (R : Rep) : PS := if R.e = 0 then { s with heard := wrap64 (s.heard + 1) } else { s with fin := R.e }

section
variable {σ : Type} {SA : (Nat → Prop) → World → σ → Prop} {ask : σ → Int → Int → Rep × σ} {may : Int → Int → Prop} {B : Nat} {S T : Nat → Prop} {w : World} {b : Nat} {pv : Nat → Value} {vt : Value} {s : PS} {x : σ}

theorem pick_one {w : World} {v : Value} : Calls Tryz.prog 118 #[v, .int .i64 1] w fun e w' => e = .returned (.tuple #[.int .i64 0, .bool true]) ∧ w' = w := by
  go_enter Tryz.func118, Tryz.ntmps118
  go_wp2
  refine bodyPost_ret (v := .tuple #[.int .i64 0, .bool true]) (by simp [results, Tryz.results118, go_sem]) rfl ?_
  exact ⟨rfl, rfl⟩

set_option maxHeartbeats 1000000 in
theorem pick_any (L : SrcLaw SA) {rb tyS fnS : Nat} (K : HearSpec SA ask may B rb tyS fnS) (hp : pv 3 = .iface tyS (.pointer (some ⟨rb, 0, none⟩))) (h : RI SA B S w b pv vt T s x) (of : Int) (hm : may 3 of) (h1 : of ≠ 1) :
    Calls Tryz.prog 118 #[.pointer (some ⟨b, 0, none⟩), .int .i64 of] w fun e w' => e = .returned (.tuple #[.int .i64 (if (ask x 3 of).1.e = 0 then (ask x 3 of).1.n else 0), .bool (decide ((ask x 3 of).1.e = 0))]) ∧
      ∃ S' T', RI SA B S' w' b pv vt T' (hdS s (ask x 3 of).1) (ask x 3 of).2 ∧ Fr S w w' S' := by
  have hc := hear_any L K hp h 3 of hm
  generalize ask x 3 of = R at *
  obtain ⟨⟨rk, ro, rn, rf, re⟩, x'⟩ := R
  have hne : (of == 1) = false := by simpa using h1
  have HC := hide hc
  clear hc h hp hm h1
  by_cases hre : re = 0
  · have e2 : hdS s ⟨rk, ro, rn, rf, re⟩ = { s with heard := wrap64 (s.heard + 1) } := by simp [hdS, hre]
    rw [e2]
    have HRE := hide hre
    simp only [hre, if_true, decide_true]
    clear hre e2
    go_enter Tryz.func118, Tryz.ntmps118
    go_wp2_with (go_at_call 113; refine (unhide HC).mono ?_; rintro e w1 ⟨S', T', fv, r1, r2, r3⟩; rw [if_pos (unhide HRE)] at r1 r3; obtain ⟨r3, ri⟩ := r3; obtain ⟨fa, fc, rfl, _⟩ := ri; subst r3; have R1 := hide r1; have R2 := hide r2; clear r1 r2)
    refine bodyPost_ret (v := .tuple #[.int .i64 rn, .bool true]) (by simp [results, Tryz.results118, go_sem]) rfl ?_
    exact ⟨rfl, S', T', (unhide R1).alloc L _, (unhide R2).alloc _⟩
  · have e2 : hdS s ⟨rk, ro, rn, rf, re⟩ = { s with fin := re } := by simp [hdS, hre]
    rw [e2]
    have HRE := hide hre
    simp only [hre, if_false, decide_false]
    clear hre e2
    go_enter Tryz.func118, Tryz.ntmps118
    go_wp2_with (go_at_call 113; refine (unhide HC).mono ?_; rintro e w1 ⟨S', T', fv, r1, r2, r3⟩; rw [if_neg (unhide HRE)] at r1 r3; subst r3; have R1 := hide r1; have R2 := hide r2; clear r1 r2)
    refine bodyPost_ret (v := .tuple #[.int .i64 0, .bool false]) (by simp [results, Tryz.results118, go_sem]) rfl ?_
    exact ⟨rfl, S', T', (unhide R1).alloc L _, (unhide R2).alloc _⟩
end
end Go.Proofs.YtfmbebofllgmoaaGreatDoor
namespace Go.Proofs.YtfmbebofllgmoaaGreatDoor
open Go.RowKit
attribute [local go_sem ↓] Go.wp_at_zero Go.wp_at_succ

section
variable {σ : Type} {SA : (Nat → Prop) → World → σ → Prop} {ask : σ → Int → Int → Rep × σ} {may : Int → Int → Prop} {B : Nat} {S T : Nat → Prop} {w : World} {b : Nat} {pv : Nat → Value} {vt : Value} {s : PS} {x : σ}

/-- How far a handler has come. -/
def HRel (SA : (Nat → Prop) → World → σ → Prop) (ask : σ → Int → Int → Rep × σ) (B : Nat) (S : Nat → Prop) (w : World) (b : Nat) (pv : Nat → Value) (f : Nat → O3) (n N : Nat) (fin : PS × σ) (k : Nat) (wr : World) : Prop :=
  ∃ S' vt' T' s' x', RI SA B S' wr b pv vt' T' s' x' ∧ Fr S w wr S' ∧ hM ask f n k s' x' = fin ∧ QInv N s' ∧ 0 ≤ s'.next ∧ s'.next ≤ 40 ∧ n ≤ s'.next.toNat + k

theorem hM_stop (f : Nat → O3) (n k : Nat) (s : PS) (x : σ) (h : ¬ (s.next < n ∧ s.fin = 0)) : hM ask f n k s x = (s, x) := by
  cases k with
  | zero => rfl
  | succ k => simp only [hM]; rw [if_neg h]

theorem hrel_next {w2 : World} {S2 T2 : Nat → Prop} {vt2 : Value} {s2 : PS} {x2 : σ} {f : Nat → O3} {n N k' : Nat} {fin : PS × σ} {nx : Int} (p1 : RI SA B S2 w2 b pv vt2 T2 s2 x2) (p2 : Fr S w w2 S2) (e : fin = hM ask f n k' s2 x2) (q : QInv N s2)
    (hx : s2.next = nx + 1 ∨ s2.next = nx + 1 + 1) (h0 : 0 ≤ nx) (h1 : nx < n) (hn : n ≤ 32) (h7 : n ≤ nx.toNat + (k' + 1)) : HRel SA ask B S w b pv f n N fin k' w2 :=
  ⟨S2, vt2, T2, s2, x2, p1, p2, e.symm, q, by omega, by omega, by omega⟩

set_option maxHeartbeats 4000000 in
theorem handle_any (L : SrcLaw SA) {rb tyS fnS : Nat} (K : HearSpec SA ask may B rb tyS fnS) (hp : pv 3 = .iface tyS (.pointer (some ⟨rb, 0, none⟩))) (hm : may 1 0) (hm4 : ∀ v, 1 ≤ v → v ≤ 1000000 → may 4 v) (hk : ClockOk ask)
    {w0 : World} (hB : B = w0.heap.size) (hbel : Below w0.heap.size w0 w) (h : RI SA B S w b pv vt T s x) {v : Value} {n N nt nf : Nat} {f : Nat → O3} (hv : OpsIn w0 v n f) (hn : n ≤ 32) (hnt : nt ≤ 8) (hnf : nf ≤ 8) (hr : ∀ i, i < n → rt (f i) nt nf = true) (hq : QInv N s) (hN : N ≤ 100000000) :
    Calls Tryz.prog 54 #[.pointer (some ⟨b, 0, none⟩), v] w fun e w' => e = .returned (.tuple #[]) ∧ RunPost SA B S w b pv (hM ask f n n { s with next := 0 } x).1 (hM ask f n n { s with next := 0 } x).2 w' := by
  obtain ⟨va, vc, rfl, vl, hf⟩ := hv
  have hin := h.inB
  have c0 := h.cell 17 (by omega)
  have z0 := h.free 17 (by omega)
  generalize img pv vt s 17 = o17 at c0
  have hb := (h.bound b h.inB).2
  have h0 := h.set L 17 (.int .i64 0) { s with next := 0 } (by omega) (set_next pv vt s 0) rfl
  have r0 : HRel SA ask B S w b pv f n N (hM ask f n n { s with next := 0 } x) n (w.setCell ⟨b, 17, none⟩ (.int .i64 0)) :=
    ⟨S, vt, T, _, x, h0, (Fr.refl S w).setCell _ _ (.inl hin), rfl, ⟨hq.fuel, hq.clock, hq.armings, hq.trace⟩, Int.le_refl 0, by show (0 : Int) ≤ 40; omega, by simp⟩
  have hSB : ∀ k, S k → B ≤ k := fun k hk => (h.bound k hk).1
  have hBw : B ≤ w.heap.size := by have := h.bound b h.inB; omega
  generalize hM ask f n n { s with next := 0 } x = fin at *
  have HF := hide hf
  have HR := hide hr
  have R0 := hide r0
  have HSB := hide hSB
  have HBW := hide hBw
  have HBEL := hide hbel
  have HBE := hide hB
  clear h h0 hf hr r0 hq hin hSB hBw hbel hB
  go_enter Tryz.func54, Tryz.ntmps54
  go_wp2
  go_loopg [4] n (fun k u wr => HRel SA ask B S w b pv f n N fin k wr)
  case atStart => exact unhide R0
  case round =>
    obtain ⟨S', vt', T', s', x', q1, q2, q3, q4, q5, q6, q7⟩ := hrel
    have c17 := (q1.cell 17 (by omega)).trans (by rw [img_next])
    have c66 := (q1.cell 66 (by omega)).trans (by rw [img_fin])
    have c16 := (q1.cell 16 (by omega)).trans (by rw [img_fuel])
    have f16 := q1.free 16 (by omega)
    have f17 := q1.free 17 (by omega)
    have f66 := q1.free 66 (by omega)
    have hbr := (q1.bound b q1.inB).2
    by_cases hlt : s'.next < n
    · by_cases hfi : s'.fin = 0
      · obtain ⟨k', rfl⟩ : ∃ k', gk = k' + 1 := ⟨gk - 1, by omega⟩
        have hu : hM ask f n (k' + 1) s' x' = if s'.fuel = 0 then ({ s' with fin := 3 }, x') else hM ask f n k' (opM ask (f s'.next.toNat) { s' with fuel := s'.fuel - 1, next := s'.next + 1 } x').1 (opM ask (f s'.next.toNat) { s' with fuel := s'.fuel - 1, next := s'.next + 1 } x').2 := by
          simp only [hM]; rw [if_pos ⟨hlt, hfi⟩]
        have hfb : (s'.fin == 0) = true := by simpa using hfi
        by_cases hfu : s'.fuel = 0
        · rw [if_pos hfu] at hu
          have q := q1.set L 66 (.int .i64 3) { s' with fin := 3 } (by omega) (set_fin pv vt' s' 3) rfl
          have hub : (s'.fuel == 0) = true := by simpa using hfu
          have Q1 := hide q
          have Q2 := hide (q2.setCell ⟨b, 66, none⟩ (.int .i64 3) (by by_cases hs : S b; exact .inl hs; exact .inr (Nat.le_of_not_lt fun hl => hs (q2.old b hl q1.inB))))
          have E := hide (q3.symm.trans hu)
          clear q q1 q2 q3 q4 hu hfi hfu
          generalize s'.next = nx at *
          generalize s'.fin = fi at *
          generalize s'.fuel = fu at *
          go_wp2
          refine bodyPost_ret (v := .tuple #[]) (by simp [results, Tryz.results54, go_sem]) rfl ?_
          rw [unhide E]
          exact ⟨rfl, S', vt', T', unhide Q1, unhide Q2⟩
        · rw [if_neg hfu] at hu
          have hub : (s'.fuel == 0) = false := by simpa using hfu
          rcases unhide HF with hz | ⟨ob, off, rfl, hf⟩
          · omega
          have hi : s'.next.toNat < n := by omega
          have hbw : Below w0.heap.size w0 wr := (unhide HBEL).trans (unhide HBE ▸ q2.below (unhide HSB) (unhide HBW))
          have hop := opAt_below hbw (hf _ hi)
          have hob : ob < w0.heap.size := opAt_lt (hf _ hi)
          have hBb : B ≤ b := (q1.bound b q1.inB).1
          have hne : ¬ b = ob := by have := unhide HBE; omega
          have hne' : ¬ ob = b := by omega
          have hobw : ob < wr.heap.size := opAt_lt hop
          have hrt := unhide HR _ hi
          have e1 : (0 : Int) ≤ s'.next := q5
          have e2 : s'.next < (n : Int) := hlt
          generalize hgo : f s'.next.toNat = o at *
          obtain ⟨c, a, v⟩ := o
          obtain ⟨g0, g1, g2⟩ := hop
          have hc := right_code (show rightB c a v nt nf = true from hrt)
          have qf := q4.fuel
          have h1 := ((((q1.set L 16 (.int .i64 (s'.fuel - 1)) _ (by omega) (set_fuel pv vt' s' (s'.fuel - 1)) rfl).set L 17 (.int .i64 (s'.next + 1)) _ (by omega) (set_next pv vt' _ (s'.next + 1)) rfl).alloc L (.cells #[.int .i64 c, .int .i64 a, .int .i64 v] 70)).drew L)
          have hact := act_any L K hp h1 hm hm4 c a v nt nf hnt hnf hrt ⟨⟨by show 0 ≤ s'.next + 1; omega, by show s'.next + 1 ≤ 1000; omega⟩, q4.clock, ⟨q4.armings.1, by have := q4.armings.2; show s'.armings ≤ 5000; omega⟩, by have := q4.trace; show s'.trace.length ≤ 100000000; omega⟩
          have hact' := h1.cell (4 + c.toNat) (by omega)
          rw [img_act _ _ _ _ (by omega)] at hact'
          have HACT := hide hact
          have HACTV := hide hact'
          have hnx := opM_next (ask := ask) (c, a, v) { s' with fuel := s'.fuel - 1, next := s'.next + 1 } x'
          have hnv := opM_inv hk (c, a, v) { s' with fuel := s'.fuel - 1, next := s'.next + 1 } x' (N := N) ⟨⟨by show 0 ≤ s'.fuel - 1; omega, by show s'.fuel - 1 ≤ 5000; omega⟩, q4.clock, ⟨q4.armings.1, by have := q4.armings.2; show s'.armings + (s'.fuel - 1) ≤ 5000; omega⟩, by have := q4.trace; show s'.trace.length + (s'.fuel - 1).toNat ≤ N; omega⟩ (by have := q4.armings.2; show s'.armings + (s'.fuel - 1) + 1 ≤ 5000; omega) (by have := q4.trace; show s'.trace.length + (s'.fuel - 1).toNat + 1 ≤ N; omega)
          have hSb : S b ∨ w.heap.size ≤ b := by
            by_cases hs : S b
            · exact .inl hs
            · exact .inr (Nat.le_of_not_lt fun hl => hs (q2.old b hl q1.inB))
          have Q2 := hide (((((q2.setCell ⟨b, 16, none⟩ (.int .i64 (s'.fuel - 1)) hSb).setCell ⟨b, 17, none⟩ (.int .i64 (s'.next + 1)) hSb).alloc (.cells #[.int .i64 c, .int .i64 a, .int .i64 v] 70)).drew))
          have E := hide (q3.symm.trans hu)
          have HNX := hide hnx
          have HNV := hide hnv
          clear hu q1 q2 q3 q4 hact hact' h1 hf hfi hfu hrt hnx hnv hbw
          go_wp2
          have hcs : c = 1 ∨ c = 2 ∨ c = 3 ∨ c = 4 ∨ c = 5 ∨ c = 6 ∨ c = 7 ∨ c = 8 ∨ c = 9 ∨ c = 10 ∨ c = 11 := by omega
          clear hc
          rcases hcs with rfl | rfl | rfl | rfl | rfl | rfl | rfl | rfl | rfl | rfl | rfl
          · have ha := unhide HACTV
            simp [actV] at ha
            go_region_with (go_at_call 83; refine (unhide HACT).mono ?_; rintro e w2 ⟨rfl, S2, vt2, T2, p1, p2⟩; have P1 := hide p1; have P2 := hide p2; clear p1 p2)
            all_goals
              go_wp2
              go_roundg k'
              case rel => exact hrel_next (unhide P1) ((unhide Q2).trans (unhide P2)) (unhide E) (unhide HNV) (unhide HNX) e1 e2 hn q7
              case measure => omega
          · have ha := unhide HACTV
            simp [actV] at ha
            go_region_with (go_at_call 84; refine (unhide HACT).mono ?_; rintro e w2 ⟨rfl, S2, vt2, T2, p1, p2⟩; have P1 := hide p1; have P2 := hide p2; clear p1 p2)
            all_goals
              go_wp2
              go_roundg k'
              case rel => exact hrel_next (unhide P1) ((unhide Q2).trans (unhide P2)) (unhide E) (unhide HNV) (unhide HNX) e1 e2 hn q7
              case measure => omega
          · have ha := unhide HACTV
            simp [actV] at ha
            go_region_with (go_at_call 85; refine (unhide HACT).mono ?_; rintro e w2 ⟨rfl, S2, vt2, T2, p1, p2⟩; have P1 := hide p1; have P2 := hide p2; clear p1 p2)
            all_goals
              go_wp2
              go_roundg k'
              case rel => exact hrel_next (unhide P1) ((unhide Q2).trans (unhide P2)) (unhide E) (unhide HNV) (unhide HNX) e1 e2 hn q7
              case measure => omega
          · have ha := unhide HACTV
            simp [actV] at ha
            go_region_with (go_at_call 86; refine (unhide HACT).mono ?_; rintro e w2 ⟨rfl, S2, vt2, T2, p1, p2⟩; have P1 := hide p1; have P2 := hide p2; clear p1 p2)
            all_goals
              go_wp2
              go_roundg k'
              case rel => exact hrel_next (unhide P1) ((unhide Q2).trans (unhide P2)) (unhide E) (unhide HNV) (unhide HNX) e1 e2 hn q7
              case measure => omega
          · have ha := unhide HACTV
            simp [actV] at ha
            go_region_with (go_at_call 87; refine (unhide HACT).mono ?_; rintro e w2 ⟨rfl, S2, vt2, T2, p1, p2⟩; have P1 := hide p1; have P2 := hide p2; clear p1 p2)
            all_goals
              go_wp2
              go_roundg k'
              case rel => exact hrel_next (unhide P1) ((unhide Q2).trans (unhide P2)) (unhide E) (unhide HNV) (unhide HNX) e1 e2 hn q7
              case measure => omega
          · have ha := unhide HACTV
            simp [actV] at ha
            go_region_with (go_at_call 88; refine (unhide HACT).mono ?_; rintro e w2 ⟨rfl, S2, vt2, T2, p1, p2⟩; have P1 := hide p1; have P2 := hide p2; clear p1 p2)
            all_goals
              go_wp2
              go_roundg k'
              case rel => exact hrel_next (unhide P1) ((unhide Q2).trans (unhide P2)) (unhide E) (unhide HNV) (unhide HNX) e1 e2 hn q7
              case measure => omega
          · have ha := unhide HACTV
            simp [actV] at ha
            go_region_with (go_at_call 89; refine (unhide HACT).mono ?_; rintro e w2 ⟨rfl, S2, vt2, T2, p1, p2⟩; have P1 := hide p1; have P2 := hide p2; clear p1 p2)
            all_goals
              go_wp2
              go_roundg k'
              case rel => exact hrel_next (unhide P1) ((unhide Q2).trans (unhide P2)) (unhide E) (unhide HNV) (unhide HNX) e1 e2 hn q7
              case measure => omega
          · have ha := unhide HACTV
            simp [actV] at ha
            go_region_with (go_at_call 90; refine (unhide HACT).mono ?_; rintro e w2 ⟨rfl, S2, vt2, T2, p1, p2⟩; have P1 := hide p1; have P2 := hide p2; clear p1 p2)
            all_goals
              go_wp2
              go_roundg k'
              case rel => exact hrel_next (unhide P1) ((unhide Q2).trans (unhide P2)) (unhide E) (unhide HNV) (unhide HNX) e1 e2 hn q7
              case measure => omega
          · have ha := unhide HACTV
            simp [actV] at ha
            go_region_with (go_at_call 91; refine (unhide HACT).mono ?_; rintro e w2 ⟨rfl, S2, vt2, T2, p1, p2⟩; have P1 := hide p1; have P2 := hide p2; clear p1 p2)
            all_goals
              go_wp2
              go_roundg k'
              case rel => exact hrel_next (unhide P1) ((unhide Q2).trans (unhide P2)) (unhide E) (unhide HNV) (unhide HNX) e1 e2 hn q7
              case measure => omega
          · have ha := unhide HACTV
            simp [actV] at ha
            go_region_with (go_at_call 92; refine (unhide HACT).mono ?_; rintro e w2 ⟨rfl, S2, vt2, T2, p1, p2⟩; have P1 := hide p1; have P2 := hide p2; clear p1 p2)
            all_goals
              go_wp2
              go_roundg k'
              case rel => exact hrel_next (unhide P1) ((unhide Q2).trans (unhide P2)) (unhide E) (unhide HNV) (unhide HNX) e1 e2 hn q7
              case measure => omega
          · have ha := unhide HACTV
            simp [actV] at ha
            go_region_with (go_at_call 93; refine (unhide HACT).mono ?_; rintro e w2 ⟨rfl, S2, vt2, T2, p1, p2⟩; have P1 := hide p1; have P2 := hide p2; clear p1 p2)
            all_goals
              go_wp2
              go_roundg k'
              case rel => exact hrel_next (unhide P1) ((unhide Q2).trans (unhide P2)) (unhide E) (unhide HNV) (unhide HNX) e1 e2 hn q7
              case measure => omega
      · have e := hM_stop (ask := ask) f n gk s' x' (fun hh => hfi hh.2)
        have hfb : (s'.fin == 0) = false := by simpa using hfi
        have Q1 := hide q1
        have Q2 := hide q2
        have E := hide (q3.symm.trans e)
        clear q1 q2 q3 q4 e hfi
        generalize s'.next = nx at *
        generalize s'.fin = fi at *
        go_wp2
        go_end0
        rw [unhide E]
        exact ⟨rfl, S', vt', T', unhide Q1, unhide Q2⟩
    · have e := hM_stop (ask := ask) f n gk s' x' (fun hh => hlt hh.1)
      have Q1 := hide q1
      have Q2 := hide q2
      have E := hide (q3.symm.trans e)
      clear q1 q2 q3 q4 e
      generalize s'.next = nx at *
      generalize s'.fin = fi at *
      go_wp2
      go_end0
      rw [unhide E]
      exact ⟨rfl, S', vt', T', unhide Q1, unhide Q2⟩
end
end Go.Proofs.YtfmbebofllgmoaaGreatDoor
namespace Go.Proofs.YtfmbebofllgmoaaGreatDoor
open Go.RowKit

section
variable {σ : Type} {ask : σ → Int → Int → Rep × σ}

theorem hM_inv (hk : ClockOk ask) {N n : Nat} {f : Nat → O3} : ∀ (k : Nat) (s : PS) (x : σ), QInv N s → QInv N (hM ask f n k s x).1
  | 0, _, _, h => h
  | k + 1, s, x, h => by
    unfold hM
    by_cases hc : s.next < n ∧ s.fin = 0
    · rw [if_pos hc]
      by_cases hf : s.fuel = 0
      · rw [if_pos hf]; exact ⟨h.fuel, h.clock, h.armings, h.trace⟩
      · rw [if_neg hf]
        have h1 := h.fuel
        have h2 := h.armings
        have h3 := h.trace
        exact hM_inv hk k _ _ (opM_inv hk _ _ _ ⟨⟨by show 0 ≤ s.fuel - 1; omega, by show s.fuel - 1 ≤ 5000; omega⟩, h.clock, ⟨h2.1, by show s.armings + (s.fuel - 1) ≤ 5000; omega⟩, by show s.trace.length + (s.fuel - 1).toNat ≤ N; omega⟩
          (by show s.armings + (s.fuel - 1) + 1 ≤ 5000; omega) (by show s.trace.length + (s.fuel - 1).toNat + 1 ≤ N; omega))
    · rw [if_neg hc]; exact h

/-- Files that are watched are files of the program; timers that are armed are timers of the program, by their numbers, each with an arming of its own. -/
structure WInv (nt nf : Nat) (s : PS) : Prop where
  wat : ∀ i, s.wat i = true → i < nf
  num : ∀ i, (s.tim i).1 = true → i < nt ∧ (s.tim i).2.2.2 = (i : Int)
  arm : ∀ i, (s.tim i).1 = true → (s.tim i).2.2.1 ≤ s.armings
  uni : ∀ i j, (s.tim i).1 = true → (s.tim j).1 = true → (s.tim i).2.2.1 = (s.tim j).2.2.1 → i = j

theorem WInv.of {nt nf : Nat} {s s' : PS} (h : WInv nt nf s) (hw : s'.wat = s.wat) (ht : s'.tim = s.tim) (ha : s'.armings = s.armings) : WInv nt nf s' := by
  obtain ⟨h1, h2, h3, h4⟩ := h
  exact ⟨by rw [hw]; exact h1, by rw [ht]; exact h2, by rw [ht, ha]; exact h3, by rw [ht]; exact h4⟩

theorem ckS_winv {nt nf : Nat} {s : PS} (h : WInv nt nf s) (R : Rep) : WInv nt nf (ckS s R) := by
  unfold ckS; exact ite_ok (P := WInv nt nf) (ite_ok (P := WInv nt nf) (h.of rfl rfl rfl) (h.of rfl rfl rfl)) (h.of rfl rfl rfl)

theorem opM_winv {nt nf : Nat} {c a v : Int} {s : PS} (x : σ) (hr : rightB c a v nt nf = true) (h : WInv nt nf s) : WInv nt nf (opM ask (c, a, v) s x).1 := by
  have hc := right_code hr
  have hcs : c = 1 ∨ c = 2 ∨ c = 3 ∨ c = 4 ∨ c = 5 ∨ c = 6 ∨ c = 7 ∨ c = 8 ∨ c = 9 ∨ c = 10 ∨ c = 11 := by omega
  rcases hcs with rfl | rfl | rfl | rfl | rfl | rfl | rfl | rfl | rfl | rfl | rfl
  · exact h.of rfl rfl rfl
  · exact h.of rfl rfl rfl
  · obtain ⟨q1, q2⟩ := right_tim hr (by omega)
    refine ⟨h.wat, ?_, ?_, ?_⟩
    · intro i hi
      by_cases e : i = a.toNat
      · subst e; simp [opM, upd]; omega
      · have h0 : (opM ask (3, a, v) s x).1.tim i = s.tim i := by simp [opM, upd, e]
        rw [h0] at hi ⊢; exact h.num i hi
    · intro i hi
      have ha : (opM ask (3, a, v) s x).1.armings = s.armings + 1 := by simp [opM]
      rw [ha]
      by_cases e : i = a.toNat
      · subst e; simp [opM, upd]
      · have h0 : (opM ask (3, a, v) s x).1.tim i = s.tim i := by simp [opM, upd, e]
        rw [h0] at hi ⊢
        have := h.arm i hi
        omega
    · have hne : ∀ i, i ≠ a.toNat → (opM ask (3, a, v) s x).1.tim i = s.tim i := fun i e => by simp [opM, upd, e]
      have heq : ((opM ask (3, a, v) s x).1.tim a.toNat).2.2.1 = s.armings + 1 := by simp [opM, upd]
      intro i j hi hj he
      by_cases e : i = a.toNat
      · by_cases e' : j = a.toNat
        · omega
        · subst e
          rw [heq] at he
          rw [hne j e'] at hj he
          have := h.arm j hj
          omega
      · by_cases e' : j = a.toNat
        · subst e'
          rw [heq] at he
          rw [hne i e] at hi he
          have := h.arm i hi
          omega
        · rw [hne i e] at hi he
          rw [hne j e'] at hj he
          exact h.uni i j hi hj he
  · have hne : ∀ i, ((opM ask (4, a, v) s x).1.tim i).1 = true → (opM ask (4, a, v) s x).1.tim i = s.tim i := fun i e => by
      by_cases e' : i = a.toNat
      · subst e'; simp [opM, upd] at e
      · simp [opM, upd, e']
    refine ⟨h.wat, ?_, ?_, ?_⟩
    · intro i hi; have h0 := hne i hi; rw [h0] at hi ⊢; exact h.num i hi
    · intro i hi; have h0 := hne i hi; rw [h0] at hi ⊢; exact h.arm i hi
    · intro i j hi hj he
      have h0 := hne i hi
      have h1 := hne j hj
      rw [h0] at hi he
      rw [h1] at hj he
      exact h.uni i j hi hj he
  · obtain ⟨q1, q2⟩ := right_file hr (by omega)
    refine ⟨?_, h.num, h.arm, h.uni⟩
    intro i hi
    by_cases e : i = a.toNat
    · omega
    · simp [opM, upd, e] at hi; exact h.wat i hi
  · obtain ⟨q1, q2⟩ := right_file hr (by omega)
    refine ⟨?_, h.num, h.arm, h.uni⟩
    intro i hi
    by_cases e : i = a.toNat
    · omega
    · simp [opM, upd, e] at hi; exact h.wat i hi
  · have hq := ckS_winv h (ask x 1 0).1
    exact ite_ok (P := WInv nt nf) (hq.of rfl rfl rfl) hq
  · show WInv nt nf (lotS s (ask x 4 v).1 a.toNat)
    unfold lotS; exact ite_ok (P := WInv nt nf) (h.of rfl rfl rfl) (h.of rfl rfl rfl)
  · exact h.of rfl rfl rfl
  · exact ite_ok (P := WInv nt nf) (h.of rfl rfl rfl) h
  · exact h.of rfl rfl rfl

theorem hM_winv {nt nf n : Nat} {f : Nat → O3} (hr : ∀ i, i < n → rt (f i) nt nf = true) : ∀ (k : Nat) (s : PS) (x : σ), 0 ≤ s.next → WInv nt nf s → WInv nt nf (hM ask f n k s x).1
  | 0, _, _, _, h => h
  | k + 1, s, x, h0, h => by
    unfold hM
    by_cases hc : s.next < n ∧ s.fin = 0
    · rw [if_pos hc]
      by_cases hf : s.fuel = 0
      · rw [if_pos hf]; exact h.of rfl rfl rfl
      · rw [if_neg hf]
        have hn := opM_next (ask := ask) (f s.next.toNat) { s with fuel := s.fuel - 1, next := s.next + 1 } x
        refine hM_winv hr k _ _ (by simp only at hn; omega) ?_
        have hrr := hr s.next.toNat (by omega)
        exact opM_winv x hrr (h.of rfl rfl rfl)
    · rw [if_neg hc]; exact h

/-- A pick: which, is it to be had, and what comes of it. -/
def pk (ask : σ → Int → Int → Rep × σ) (n : Nat) (s : PS) (x : σ) : Int × Bool × PS × σ :=
  if n = 1 then (0, true, s, x) else (if (ask x 3 n).1.e = 0 then (ask x 3 n).1.n else 0, decide ((ask x 3 n).1.e = 0), hdS s (ask x 3 n).1, (ask x 3 n).2)
/-- One ready file's turn. -/
def wk1 (g : Int → PS → σ → PS × σ) (z : Int) (s : PS) (x : σ) : PS × σ := if s.wat z.toNat then g z { s with trace := s.trace ++ [(2, z, 0)] } x else (s, x)
/-- The ready files, k of them at most. -/
def wkM (ask : σ → Int → Int → Rep × σ) (g : Int → PS → σ → PS × σ) : Nat → List Int → PS → σ → PS × σ
  | 0, _, s, x => (s, x)
  | k + 1, l, s, x => if l = [] ∨ s.fin ≠ 0 then (s, x) else
    if (pk ask l.length s x).2.1 then wkM ask g k (l.eraseIdx (pk ask l.length s x).1.toNat) (wk1 g (l.getD (pk ask l.length s x).1.toNat 0) (pk ask l.length s x).2.2.1 (pk ask l.length s x).2.2.2).1 (wk1 g (l.getD (pk ask l.length s x).1.toNat 0) (pk ask l.length s x).2.2.1 (pk ask l.length s x).2.2.2).2
    else ((pk ask l.length s x).2.2.1, (pk ask l.length s x).2.2.2)

/-- The source's picks are picks. -/
def PickOk (ask : σ → Int → Int → Rep × σ) : Prop := ∀ x (n : Nat), 2 ≤ n → n ≤ 8 → (ask x 3 n).1.e = 0 → 0 ≤ (ask x 3 n).1.n ∧ (ask x 3 n).1.n < n

theorem pk_lt (hk : PickOk ask) {n : Nat} (s : PS) (x : σ) (h1 : 1 ≤ n) (h8 : n ≤ 8) (hb : (pk ask n s x).2.1 = true) : 0 ≤ (pk ask n s x).1 ∧ (pk ask n s x).1 < n := by
  unfold pk at *
  by_cases e : n = 1
  · subst e; simp
  · rw [if_neg e] at hb ⊢
    have he : (ask x 3 n).1.e = 0 := by simpa using hb
    simp only [he, if_true]
    exact hk x n (by omega) h8 he

theorem pk_same (n : Nat) (s : PS) (x : σ) : (pk ask n s x).2.2.1.fuel = s.fuel ∧ (pk ask n s x).2.2.1.clock = s.clock ∧ (pk ask n s x).2.2.1.armings = s.armings ∧ (pk ask n s x).2.2.1.trace = s.trace ∧ (pk ask n s x).2.2.1.wat = s.wat ∧ (pk ask n s x).2.2.1.tim = s.tim := by
  unfold pk
  by_cases e : n = 1
  · rw [if_pos e]; exact ⟨rfl, rfl, rfl, rfl, rfl, rfl⟩
  · rw [if_neg e]; simp only [hdS]
    by_cases e' : (ask x 3 n).1.e = 0
    · rw [if_pos e']; exact ⟨rfl, rfl, rfl, rfl, rfl, rfl⟩
    · rw [if_neg e']; exact ⟨rfl, rfl, rfl, rfl, rfl, rfl⟩
theorem QInv.of {N : Nat} {s s' : PS} (h : QInv N s) (h1 : s'.fuel = s.fuel) (h2 : s'.clock = s.clock) (h3 : s'.armings = s.armings) (h4 : s'.trace = s.trace) : QInv N s' :=
  ⟨by rw [h1]; exact h.fuel, by rw [h2]; exact h.clock, by rw [h1, h3]; exact h.armings, by rw [h1, h4]; exact h.trace⟩
end
end Go.Proofs.YtfmbebofllgmoaaGreatDoor
namespace Go.Proofs.YtfmbebofllgmoaaGreatDoor
open Go.RowKit
attribute [local go_sem ↓] Go.wp_at_zero Go.wp_at_succ

theorem OwnI.weaken {w : World} {B B' : Nat} {v : Value} {l : List Int} (h : OwnI w B v l) (hB : B' ≤ B) : OwnI w B' v l := by
  refine ⟨h.1, ?_⟩
  rcases h.2 with hn | ⟨g, cap, cur, hv, hb, r⟩
  · exact .inl hn
  · exact .inr ⟨g, cap, cur, hv, Nat.le_trans hB hb, r⟩
theorem OwnI.fr {S S' : Nat → Prop} {w w' : World} {B : Nat} {v : Value} {l : List Int} (h : OwnI w B v l) (hf : Fr S w w' S') (hq : ∀ q, v.ownBlock = some q → q < w.heap.size ∧ ¬ S q) : OwnI w' B v l :=
  ownsRow_of_block h (fun q e => hf.same q (hq q e).1 (hq q e).2)
theorem Fr.notIn {S S' : Nat → Prop} {w w' : World} {v : Value} (hf : Fr S w w' S') (hq : ∀ q, v.ownBlock = some q → q < w.heap.size ∧ ¬ S q) : ∀ q, v.ownBlock = some q → ¬ S' q :=
  fun q e hs => (hq q e).2 (hf.old q (hq q e).1 hs)
theorem OwnI.len {w : World} {B : Nat} {v : Value} {l : List Int} (h : OwnI w B v l) : ∃ a c, v = .slice a l.length c := by
  rcases h.2 with ⟨hv, h0⟩ | ⟨g, cap, cur, hv, _⟩
  · have h1 : l.length = 0 := h0
    exact ⟨none, 0, by rw [h1]; exact hv⟩
  · exact ⟨_, _, hv⟩

section
variable {σ : Type} {SA : (Nat → Prop) → World → σ → Prop} {ask : σ → Int → Int → Rep × σ} {may : Int → Int → Prop} {B : Nat} {S T : Nat → Prop} {w : World} {b : Nat} {pv : Nat → Value} {vt : Value} {s : PS} {x : σ}

theorem pick_all (L : SrcLaw SA) {rb tyS fnS : Nat} (K : HearSpec SA ask may B rb tyS fnS) (hp : pv 3 = .iface tyS (.pointer (some ⟨rb, 0, none⟩))) (h : RI SA B S w b pv vt T s x) (n : Nat) (hm : ∀ n : Nat, 2 ≤ n → n ≤ 8 → may 3 n) (h1 : 1 ≤ n) (h8 : n ≤ 8) :
    Calls Tryz.prog 118 #[.pointer (some ⟨b, 0, none⟩), .int .i64 n] w fun e w' => e = .returned (.tuple #[.int .i64 (pk ask n s x).1, .bool (pk ask n s x).2.1]) ∧ ∃ S' T', RI SA B S' w' b pv vt T' (pk ask n s x).2.2.1 (pk ask n s x).2.2.2 ∧ Fr S w w' S' := by
  by_cases e : n = 1
  · subst e
    have e0 : pk ask 1 s x = (0, true, s, x) := rfl
    rw [e0]
    exact pick_one.mono fun e w' ⟨he, hw⟩ => ⟨he, S, T, by rw [hw]; exact h, by rw [hw]; exact Fr.refl S w⟩
  · have e0 : pk ask n s x = (if (ask x 3 n).1.e = 0 then (ask x 3 n).1.n else 0, decide ((ask x 3 n).1.e = 0), hdS s (ask x 3 n).1, (ask x 3 n).2) := if_neg e
    rw [e0]
    exact pick_any L K hp h n (hm n (by omega) h8) (by omega)

theorem IntsIn.alloc {w : World} {v : Value} {l : List Int} {P P' : Nat → Prop} (h : IntsIn w v l P) (o : Obj) (hP : ∀ q, P q → q < w.heap.size ∧ P' q) : IntsIn (w.alloc o) v l P' := by
  obtain ⟨a, c, hv, hc⟩ := h
  refine ⟨a, c, hv, ?_⟩
  rcases hc with hc | ⟨q, off, ha, hp, hc⟩
  · exact .inl hc
  · exact .inr ⟨q, off, ha, (hP q hp).2, fun i hi => (World.cell?_of_block (w := w) (a := ⟨q, off + i, none⟩) (Below.heap_alloc _ _ _ (hP q hp).1)).trans (hc i hi)⟩

theorem wkM_stop (g : Int → PS → σ → PS × σ) (k : Nat) (l : List Int) (s : PS) (x : σ) (h : l = [] ∨ s.fin ≠ 0) : wkM ask g k l s x = (s, x) := by
  cases k with
  | zero => rfl
  | succ k => simp only [wkM]; rw [if_pos h]

theorem wkM_step (g : Int → PS → σ → PS × σ) (k : Nat) (l : List Int) (s : PS) (x : σ) (hl : l ≠ []) (hf : s.fin = 0) {n : Int} {ok : Bool} {s4 : PS} {x4 : σ} (hpk : pk ask l.length s x = (n, ok, s4, x4)) :
    wkM ask g (k + 1) l s x = if ok then wkM ask g k (l.eraseIdx n.toNat) (wk1 g (l.getD n.toNat 0) s4 x4).1 (wk1 g (l.getD n.toNat 0) s4 x4).2 else (s4, x4) := by
  simp only [wkM]
  rw [if_neg (by simp [hl, hf]), hpk]

/-- How far the ready files have come. -/
def WRel (SA : (Nat → Prop) → World → σ → Prop) (ask : σ → Int → Int → Rep × σ) (B : Nat) (S : Nat → Prop) (w : World) (b : Nat) (pv : Nat → Value) (g : Int → PS → σ → PS × σ) (nt nf N : Nat) (fin : PS × σ) (k : Nat) (u : Value) (wr : World) : Prop :=
  ∃ S' vt' T' s' x' l, RI SA B S' wr b pv vt' T' s' x' ∧ Fr S w wr S' ∧ OwnI wr w.heap.size u l ∧ (∀ q, u.ownBlock = some q → ¬ S' q) ∧ wkM ask g k l s' x' = fin ∧ QInv N s' ∧ s'.trace.length + s'.fuel.toNat + l.length ≤ N ∧ WInv nt nf s' ∧ (∀ z, z ∈ l → 0 ≤ z ∧ z < 8) ∧ l.length ≤ k ∧ k ≤ 8

theorem below_of {w0 w5 : World} {S5 : Nat → Prop} (hbel : Below w0.heap.size w0 w) (hB : B = w0.heap.size) (hSB : ∀ k, S k → B ≤ k) (hBw : B ≤ w.heap.size) (f : Fr S w w5 S5) : Below w0.heap.size w0 w5 :=
  hbel.trans (hB ▸ f.below hSB hBw)

theorem wrel_next {wr w3 w4 : World} {S3 S4 S5 T5 : Nat → Prop} {vt5 : Value} {s5 : PS} {x5 : σ} {g : Int → PS → σ → PS × σ} {nt nf N k' i : Nat} {fin : PS × σ} {l : List Int} {v v4 : Value} {w5 : World}
    (r5 : RI SA B S5 w5 b pv vt5 T5 s5 x5) (f3 : Fr S w wr S3) (f4 : Fr S3 wr w3 S4) (g4 : w3.grownBy w4 v.ownBlock) (f5 : Fr S4 w4 w5 S5) (hg1 : ∀ q, v.ownBlock = some q → q < wr.heap.size ∧ ¬ S3 q) (ho : OwnI wr w.heap.size v l)
    (o4 : OwnI w4 w.heap.size v4 (l.eraseIdx i)) (b4 : v4.ownBlock = v.ownBlock) (hil : i < l.length) (e : wkM ask g k' (l.eraseIdx i) s5 x5 = fin) (hq : QInv (N - (l.length - 1)) s5) (hw : WInv nt nf s5) (hl : ∀ z, z ∈ l → 0 ≤ z ∧ z < 8) (hlk : l.length ≤ k' + 1) (hk8 : k' + 1 ≤ 8) (hN : 8 ≤ N) :
    WRel SA ask B S w b pv g nt nf N fin k' v4 w5 := by
  have hb4 : ∀ q, v4.ownBlock = some q → q < w4.heap.size ∧ ¬ S4 q := fun q hq' => by
    rw [b4] at hq'
    exact ⟨Nat.lt_of_lt_of_le (hg1 q hq').1 (Nat.le_trans f4.size g4.size), f4.notIn hg1 q hq'⟩
  have hlen : (l.eraseIdx i).length = l.length - 1 := List.length_eraseIdx_of_lt hil
  have h1 := hq.trace
  refine ⟨S5, vt5, T5, s5, x5, l.eraseIdx i, r5, ((f3.trans f4).grown g4 (fun q hq' => (ho.lt q hq').1)).trans f5, o4.fr f5 hb4, f5.notIn hb4, e, ⟨hq.fuel, hq.clock, hq.armings, by omega⟩, by rw [hlen]; omega, hw, fun z hz => hl z (List.mem_of_mem_eraseIdx hz), by rw [hlen]; omega, by omega⟩

set_option maxHeartbeats 4000000 in
theorem wake_any (L : SrcLaw SA) {rb tyS fnS : Nat} (K : HearSpec SA ask may B rb tyS fnS) (hp : pv 3 = .iface tyS (.pointer (some ⟨rb, 0, none⟩))) (hm : may 1 0) (hm2 : may 2 0) (hm3 : ∀ n : Nat, 2 ≤ n → n ≤ 8 → may 3 n) (hm4 : ∀ v, 1 ≤ v → v ≤ 1000000 → may 4 v) (hk : ClockOk ask) (hkp : PickOk ask)
    {w0 : World} (hB : B = w0.heap.size) (hbel : Below w0.heap.size w0 w) (h : RI SA B S w b pv vt T s x) {N nt nf : Nat} {fl : Nat → Nat} {ff : Nat → Nat → O3} (hv : HandsIn w0 (pv 2) nf fl ff) (hn : ∀ i, i < nf → fl i ≤ 32) (hnt : nt ≤ 8) (hnf : nf ≤ 8) (hr : ∀ i, i < nf → ∀ j, j < fl i → rt (ff i j) nt nf = true)
    (hq : QInv N s) (hN : N + 8 ≤ 100000000) (hw : WInv nt nf s) (hfil : ∀ z, z ∈ (ask x 2 0).1.files → 0 ≤ z ∧ z < 8) (hfl8 : (ask x 2 0).1.files.length ≤ 8) :
    Calls Tryz.prog 97 #[.pointer (some ⟨b, 0, none⟩)] w fun e w' => e = .returned (.tuple #[]) ∧
      RunPost SA B S w b pv (if (ask x 2 0).1.e = 0 then wkM ask (fun z s x => hM ask (ff z.toNat) (fl z.toNat) (fl z.toNat) { s with next := 0 } x) 8 ((ask x 2 0).1.files.filter fun z => s.wat z.toNat) { s with heard := wrap64 (s.heard + 1) } (ask x 2 0).2 else ({ s with fin := (ask x 2 0).1.e }, (ask x 2 0).2)).1
       (if (ask x 2 0).1.e = 0 then wkM ask (fun z s x => hM ask (ff z.toNat) (fl z.toNat) (fl z.toNat) { s with next := 0 } x) 8 ((ask x 2 0).1.files.filter fun z => s.wat z.toNat) { s with heard := wrap64 (s.heard + 1) } (ask x 2 0).2 else ({ s with fin := (ask x 2 0).1.e }, (ask x 2 0).2)).2 w' := by
  have hc := hear_any L K hp h 2 0 hm2
  generalize ask x 2 0 = R at *
  obtain ⟨⟨rk, ro, rn, rf, re⟩, x'⟩ := R
  have HSB := hide (fun k (hk : S k) => (h.bound k hk).1)
  have HBW := hide (show B ≤ w.heap.size by have := h.bound b h.inB; omega)
  have HBEL := hide hbel
  have HBE := hide hB
  have HV := hide hv
  have HR := hide hr
  have HC := hide hc
  have HN := hide hn
  simp only at hfil hfl8 ⊢
  have HQ := hide hq
  have HW := hide hw
  have HFI := hide hfil
  clear hc h hbel hB hv hr hn hq hw hfil
  by_cases hre : re = 0
  · rw [if_pos hre]
    generalize hfin : wkM ask (fun z s x => hM ask (ff z.toNat) (fl z.toNat) (fl z.toNat) { s with next := 0 } x) 8 (rf.filter fun z => s.wat z.toNat) { s with heard := wrap64 (s.heard + 1) } x' = fin
    have HFIN := hide hfin
    have HRE := hide hre
    clear hre hfin
    go_enter Tryz.func97, Tryz.ntmps97
    go_wp2_with (first | (go_at_call 113; refine (unhide HC).mono ?_; rintro e w1 ⟨S', T', fv, r1, r2, r3⟩; rw [if_pos (unhide HRE)] at r1 r3; obtain ⟨r3, ri⟩ := r3; have RIN := hide ri; obtain ⟨fa, fc, rfl, _⟩ := ri; subst r3; have R1 := hide r1; have R2 := hide r2; clear r1 r2) | (go_at_call 117; refine (ready_any L ((unhide R1).alloc L _) _ rf ((unhide RIN).alloc _ (fun q hq => ⟨hq.2.1, by simp; omega, hq.2.2⟩)) hfl8 (unhide HFI)).mono ?_; rintro e w2 ⟨v2, rfl, o2, q1, q2⟩; have O2 := hide o2; have Q1 := hide q1; have Q2 := hide q2; clear o2 q1 q2))
    go_loopg [4] 8 (fun k u wr => WRel SA ask B S w b pv (fun z s x => hM ask (ff z.toNat) (fl z.toNat) (fl z.toNat) { s with next := 0 } x) nt nf (N + 8) fin k u wr)
    case atStart =>
      have o2 := unhide O2
      have hsz := ((unhide R2).alloc (.cells #[.int .i64 rk, .int .i64 ro, .int .i64 rn, .slice fa rf.length fc] 49)).size
      have hq := unhide HQ
      have hle := List.length_filter_le (fun z => s.wat z.toNat) rf
      have htr := hq.trace
      refine ⟨S', vt, T', _, x', _, unhide Q1, ((unhide R2).alloc _).trans (unhide Q2), o2.weaken hsz, ?_, unhide HFIN, ⟨hq.fuel, hq.clock, hq.armings, by show s.trace.length + s.fuel.toNat ≤ N + 8; omega⟩, ?_, (unhide HW).of rfl rfl rfl, ?_, by show (rf.filter fun z => s.wat z.toNat).length ≤ 8; omega, Nat.le_refl 8⟩
      · intro q hq hs
        have h1 := (o2.lt q hq).1
        have h2 := (((unhide R1).alloc L (.cells #[.int .i64 rk, .int .i64 ro, .int .i64 rn, .slice fa rf.length fc] 49)).bound q hs).2
        omega
      · show s.trace.length + s.fuel.toNat + (rf.filter fun z => s.wat z.toNat).length ≤ N + 8
        omega
      · intro z hz
        exact unhide HFI z (List.mem_filter.1 hz).1
    case round =>
      obtain ⟨S3, vt3, T3, s3, x3, l, r1, r2, ho, hS3, hfin, hq3, htr, hw3, hl3, hlk, hk8⟩ := hrel
      have c66 := (r1.cell 66 (by omega)).trans (by rw [img_fin])
      obtain ⟨la, lc, rfl⟩ := ho.len
      by_cases hl0 : l = []
      · have e := hfin.symm.trans (wkM_stop _ gk l s3 x3 (.inl hl0))
        have hlen : l.length = 0 := by rw [hl0]; rfl
        have R1' := hide r1
        have R2' := hide r2
        have E := hide e
        clear r1 r2 e hfin hq3 htr hw3 hl3 ho hS3
        rw [hlen]
        go_wp2
        go_end0
        rw [unhide E]
        exact ⟨rfl, S3, vt3, T3, unhide R1', unhide R2'⟩
      · have hpos : 0 < l.length := List.length_pos_iff.2 hl0
        by_cases hfi : s3.fin = 0
        · obtain ⟨g, cap, cur, hval, hgB, hg, _, _, _, hcell⟩ := ownI_parts ho hpos
          injection hval with e1 e2 e3
          subst e1 e3
          obtain ⟨k', rfl⟩ : ∃ k', gk = k' + 1 := ⟨gk - 1, by omega⟩
          have hgS : ¬ S3 g := hS3 g rfl
          have hgl : g < wr.heap.size := (ho.lt g rfl).2
          have h98 := pick_all L K hp r1 l.length hm3 hpos (by omega)
          have hlt := pk_lt hkp (n := l.length) s3 x3 hpos (by omega)
          obtain ⟨p1, p2, p3, p4, p5, p6⟩ := pk_same (ask := ask) l.length s3 x3
          have hst := fun n ok s4 x4 => wkM_step (ask := ask) (fun z s x => hM ask (ff z.toNat) (fl z.toNat) (fl z.toNat) { s with next := 0 } x) k' l s3 x3 hl0 hfi (n := n) (ok := ok) (s4 := s4) (x4 := x4)
          generalize hpk : pk ask l.length s3 x3 = P at *
          obtain ⟨n, ok, s4, x4⟩ := P
          have hfin' := hfin.symm.trans (hst n ok s4 x4 rfl)
          simp only at p1 p2 p3 p4 p5 p6 hlt h98
          clear hst hfin hpk
          have hfb : (s3.fin == 0) = true := by simpa using hfi
          have R1' := hide r1
          have R2' := hide r2
          have HO := hide ho
          have H98 := hide h98
          cases ok
          · have E := hide hfin'
            clear r1 r2 ho h98 hfin' hcell hq3 htr hw3 hl3 hlt hS3 hg
            generalize s3.fin = fi at *
            go_wp2_with (go_at_call 118; refine (unhide H98).mono ?_; rintro e w3 ⟨rfl, S4, T4, r4, f4⟩; have R4 := hide r4; have F4 := hide f4; clear r4 f4)
            refine bodyPost_ret (v := .tuple #[]) (by simp [results, Tryz.results97, go_sem]) rfl ?_
            have e := unhide E
            simp only [Bool.false_eq_true, if_false] at e
            rw [e]
            exact ⟨rfl, S4, vt3, T4, unhide R4, (unhide R2').trans (unhide F4)⟩
          · obtain ⟨hn0, hn1⟩ := hlt rfl
            obtain ⟨i, rfl⟩ : ∃ i : Nat, n = i := ⟨n.toNat, by omega⟩
            rw [if_pos rfl, Int.toNat_natCast] at hfin'
            have hil : i < l.length := by omega
            have hz : l.getD i 0 ∈ l := by simp [List.getD, hil]
            have hzb := hl3 _ hz
            have hcz := hcell i hil
            have hL : l.length = i + 1 + (l.length - (i + 1)) := by omega
            generalize hgz : l.getD i 0 = z at *
            have hg1 : ∀ q, Value.ownBlock (.slice (some ⟨g, 0, none⟩) l.length lc) = some q → q < wr.heap.size ∧ ¬ S3 q := fun q hq => ⟨(ho.lt q hq).2, hS3 q hq⟩
            have HG1 := hide hg1
            have HL := hide hL
            have E := hide hfin'
            have HQ3 := hide hq3
            have HT3 := hide htr
            have HW3 := hide hw3
            have HL3 := hide hl3
            have hi0 : (0 : Int) ≤ (i : Int) := by omega
            have hi1 : (i : Int) < (l.length : Int) := by omega
            have hwr : IntKind.i64.wrap ((i : Int) + 1) = (i : Int) + 1 := by rw [IntKind.wrap_i64]; omega
            have HP := hide (show s4.fuel = s3.fuel ∧ s4.clock = s3.clock ∧ s4.armings = s3.armings ∧ s4.trace = s3.trace ∧ s4.wat = s3.wat ∧ s4.tim = s3.tim from ⟨p1, p2, p3, p4, p5, p6⟩)
            clear p1 p2 p3 p4 p5 p6
            obtain ⟨z0, z8⟩ := hzb
            cases hwz : s4.wat z.toNat
            · clear r1 r2 ho h98 hcell hfin' hq3 htr hw3 hl3 hlt hS3 hg hL hg1 hz
              have HWZ := hide hwz
              clear hwz
              generalize s3.fin = fi at *
              go_wp2_with (first | (go_at_call 118; refine (unhide H98).mono ?_; rintro e w3 ⟨rfl, S4, T4, r4, f4⟩; have R4 := hide r4; have F4 := hide f4; have cz := (f4.cell g i hgl hgS).trans hcz; clear r4 f4) | (go_at_call 119; refine (delete_any ((unhide HO).fr (unhide F4) (unhide HG1)) i _ (unhide HL)).mono ?_; rintro e w4 ⟨v4, rfl, o4, g4, b4⟩; have q4 := (unhide R4).grown L g4 ((unhide F4).notIn (unhide HG1)); have cw := (q4.cell (56 + z.toNat) (by omega)).trans (by rw [img_wat _ _ _ _ (by omega), unhide HWZ]); have Q4 := hide q4; clear q4; have O4 := hide o4; have G4 := hide g4; have B4 := hide b4; clear o4 g4 b4))
              go_roundg k'
              case rel =>
                obtain ⟨p1, p2, p3, p4, p5, p6⟩ := unhide HP
                have hq3 := unhide HQ3
                have ht3 := unhide HT3
                have e : wk1 (fun z s x => hM ask (ff z.toNat) (fl z.toNat) (fl z.toNat) { s with next := 0 } x) z s4 x4 = (s4, x4) := by unfold wk1; rw [if_neg (by rw [unhide HWZ]; simp)]
                have E' := unhide E
                rw [e] at E'
                exact wrel_next (unhide Q4) (unhide R2') (unhide F4) (unhide G4) (Fr.refl S4 w4) (unhide HG1) (unhide HO) (unhide O4) (unhide B4) hil E'.symm
                  ⟨by rw [p1]; exact hq3.fuel, by rw [p2]; exact hq3.clock, by rw [p1, p3]; exact hq3.armings, by rw [p1, p4]; omega⟩ ((unhide HW3).of p5 p6 p3) (unhide HL3) hlk hk8 (by omega)
              case measure => omega
            · have hznf : z.toNat < nf := hw3.wat _ (by rw [← (unhide HP).2.2.2.2.1]; exact hwz)
              obtain ⟨ha, hcap, hpv, _, hh⟩ := unhide HV
              rcases hh with hh | ⟨hb, hoff, rfl, hh⟩
              · omega
              obtain ⟨vi, hvi, hops⟩ := hh z.toNat hznf
              have hhb : hb < w0.heap.size := World.block_lt_of_cell? w0 _ hvi
              have HVI := hide hvi
              have HOPS := hide hops
              have HWZ := hide hwz
              have HPV := hide hpv
              have hznf' : z < (nf : Int) := by omega
              have hN5 : N + 8 - (l.length - 1) ≤ 100000000 := by omega
              have HQ5 : Hid (QInv (N + 8 - (l.length - 1)) { s4 with trace := s4.trace ++ [(2, z, 0)] }) := by
                obtain ⟨p1, p2, p3, p4, p5, p6⟩ := unhide HP
                have hf := hq3.fuel
                exact hide ⟨by show 0 ≤ s4.fuel ∧ s4.fuel ≤ 5000; rw [p1]; exact hq3.fuel, by show 0 ≤ s4.clock ∧ s4.clock ≤ 1099511627776; rw [p2]; exact hq3.clock, by show 0 ≤ s4.armings ∧ s4.armings + s4.fuel ≤ 5000; rw [p1, p3]; exact hq3.armings,
                  by show (s4.trace ++ [(2, z, 0)]).length + s4.fuel.toNat ≤ _; rw [p1, p4, List.length_append]; simp only [List.length_cons, List.length_nil]; omega⟩
              have HSM : Hid (Small s4.trace.length) := by
                have p4 := (unhide HP).2.2.2.1
                exact hide (by unfold Small; rw [p4]; omega)
              clear r1 r2 ho h98 hcell hfin' hq3 htr hw3 hl3 hlt hS3 hg hL hg1 hz hwz hh hvi hops hpv
              generalize s3.fin = fi at *
              go_wp2_with (first | (go_at_call 118; refine (unhide H98).mono ?_; rintro e w3 ⟨rfl, S4, T4, r4, f4⟩; have R4 := hide r4; have F4 := hide f4; have cz := (f4.cell g i hgl hgS).trans hcz; clear r4 f4) | (go_at_call 119; refine (delete_any ((unhide HO).fr (unhide F4) (unhide HG1)) i _ (unhide HL)).mono ?_; rintro e w4 ⟨v4, rfl, o4, g4, b4⟩; have q4 := (unhide R4).grown L g4 ((unhide F4).notIn (unhide HG1)); have cw := (q4.cell (56 + z.toNat) (by omega)).trans (by rw [img_wat _ _ _ _ (by omega), unhide HWZ]); have Q4 := hide q4; clear q4; have O4 := hide o4; have G4 := hide g4; have B4 := hide b4; clear o4 g4 b4) | (go_at_call 114; refine (tell_any L (unhide Q4) 2 z 0 (unhide HSM)).mono ?_; rintro e w5 ⟨rfl, S5, vt5, r5, f5⟩; have bel := below_of (unhide HBEL) (unhide HBE) (unhide HSB) (unhide HBW) (((((unhide R2').trans (unhide F4)).grown (unhide G4) (fun q hq' => ((unhide HO).lt q hq').1)).trans f5)); have cvi := (bel.cell (p := ⟨hb, hoff + z.toNat, none⟩) hhb).trans (unhide HVI); have BEL := hide bel; clear bel; have c2 := (r5.cell 2 (by omega)).trans (by rw [img_pv _ _ _ _ (by omega), unhide HPV]); have R5 := hide r5; have F5 := hide f5; clear r5 f5) | (go_at_call 54; refine (handle_any L K hp hm hm4 hk (unhide HBE) (unhide BEL) (unhide R5) (unhide HOPS) (unhide HN _ hznf) hnt hnf (unhide HR _ hznf) (unhide HQ5) hN5).mono ?_; rintro e w6 ⟨rfl, S6, vt6, T6, r6, f6⟩; have R6 := hide r6; have F6 := hide f6; clear r6 f6))
              go_roundg k'
              case rel =>
                have hq5 := unhide HQ5
                have e : wk1 (fun z s x => hM ask (ff z.toNat) (fl z.toNat) (fl z.toNat) { s with next := 0 } x) z s4 x4 = hM ask (ff z.toNat) (fl z.toNat) (fl z.toNat) { s4 with trace := s4.trace ++ [(2, z, 0)], next := 0 } x4 := by unfold wk1; rw [if_pos (unhide HWZ)]
                have E' := unhide E
                rw [e] at E'
                obtain ⟨p1, p2, p3, p4, p5, p6⟩ := unhide HP
                exact wrel_next (unhide R6) (unhide R2') (unhide F4) (unhide G4) ((unhide F5).trans (unhide F6)) (unhide HG1) (unhide HO) (unhide O4) (unhide B4) hil E'.symm
                  (hM_inv hk _ _ _ ⟨hq5.fuel, hq5.clock, hq5.armings, hq5.trace⟩) (hM_winv (unhide HR _ hznf) _ _ _ (Int.le_refl 0) ((unhide HW3).of p5 p6 p3)) (unhide HL3) hlk hk8 (by omega)
              case measure => omega
        · have e := hfin.symm.trans (wkM_stop _ gk l s3 x3 (.inr hfi))
          have hfb : (s3.fin == 0) = false := by simpa using hfi
          have R1' := hide r1
          have R2' := hide r2
          have E := hide e
          clear r1 r2 e hfin hq3 htr hw3 hl3 ho hS3
          generalize s3.fin = fi at *
          go_wp2
          go_end0
          rw [unhide E]
          exact ⟨rfl, S3, vt3, T3, unhide R1', unhide R2'⟩
  · rw [if_neg hre]
    have HRE := hide hre
    clear hre
    go_enter Tryz.func97, Tryz.ntmps97
    go_wp2_with (go_at_call 113; refine (unhide HC).mono ?_; rintro e w1 ⟨S', T', fv, r1, r2, r3⟩; rw [if_neg (unhide HRE)] at r1 r3; subst r3; have R1 := hide r1; have R2 := hide r2; clear r1 r2)
    refine bodyPost_ret (v := .tuple #[]) (by simp [results, Tryz.results97, go_sem]) rfl ?_
    exact ⟨rfl, S', vt, T', (unhide R1).alloc L _, (unhide R2).alloc _⟩
end
end Go.Proofs.YtfmbebofllgmoaaGreatDoor
namespace Go.Proofs.YtfmbebofllgmoaaGreatDoor
open Go.RowKit Go.Sort
attribute [local go_sem ↓] Go.wp_at_zero Go.wp_at_succ

theorem neqTim (a0 b0 : Bool) (a1 a2 a3 b1 b2 b3 : Int) (w : World) : (binOp .neq 126 (.agg #[.bool a0, .int .i64 a1, .int .i64 a2, .int .i64 a3]) (.agg #[.bool b0, .int .i64 b1, .int .i64 b2, .int .i64 b3])).run Tryz.prog w = .ok (.bool (!decide ((a0, a1, a2, a3) = (b0, b1, b2, b3)))) w := by
  have u3 := Tryz.underlying3
  have a3' := Tryz.isAgg3
  have z3 := Tryz.sizeOf3
  have u4 := Tryz.underlying4
  have a4' := Tryz.isAgg4
  have z4 := Tryz.sizeOf4
  have hS : Tryz.prog.underlying 126 = some (.struct (Tryz.prog.fieldsOf 126)) := by kernel_rfl
  have hp : Tryz.prog.stoodInHeld 126 = false := by kernel_rfl
  rw [run_neq_struct, show (10000 : Nat) = 9999 + 1 from rfl, run_equalIn_agg w 9999 126 _ _ hS hp]
  simp only [Program.fieldsOf, Tryz.underlying126]
  go_simp
  by_cases h0 : a0 = b0 <;> by_cases h1 : a1 = b1 <;> by_cases h2 : a2 = b2 <;> by_cases h3 : a3 = b3 <;> simp [h0, h1, h2, h3]

theorem guard141 : Tryz.prog.eqGuardType Tryz.prog.depth 126 = false := by kernel_rfl

section
variable {σ : Type} {SA : (Nat → Prop) → World → σ → Prop} {ask : σ → Int → Int → Rep × σ} {may : Int → Int → Prop} {B : Nat} {S T : Nat → Prop} {w : World} {b : Nat} {pv : Nat → Value} {vt : Value} {s : PS} {x : σ}

/-- The timer of that number goes off. -/
def offS (s : PS) (z : Int) : PS := { s with tim := upd s.tim z.toNat (false, (s.tim z.toNat).2), trace := s.trace ++ [(1, z, 0)] }
/-- The timers that are due go off. -/
def frM (g : Int → PS → σ → PS × σ) : List TM → PS → σ → PS × σ
  | [], s, x => (s, x)
  | t :: r, s, x => if s.fin ≠ 0 then (s, x) else if s.tim t.2.2.2.toNat = t then frM g r (g t.2.2.2 (offS s t.2.2.2) x).1 (g t.2.2.2 (offS s t.2.2.2) x).2 else frM g r s x

theorem mem_due {nt nf : Nat} (h : WInv nt nf s) {t : TM} (ht : t ∈ dueS s) : 0 ≤ t.2.2.2 ∧ t.2.2.2 < nt := by
  have hp := (insertionSort_holds (lt := ltOf cfT) swoT (dueK s 8).toArray 0 (dueK s 8).toArray.size (Nat.zero_le _) (Nat.le_refl _)).1
  change t ∈ (Sort.insertionSort (ltOf cfT) (dueK s 8).toArray 0 (dueK s 8).toArray.size).toList at ht
  generalize Sort.insertionSort (ltOf cfT) (dueK s 8).toArray 0 (dueK s 8).toArray.size = d at *
  have h1 := hp.2.2
  have hz := hp.1
  have h2 : t ∈ dueK s 8 := by
    have e : d.extract 0 (dueK s 8).toArray.size = d := by rw [← hz]; simp
    rw [e] at h1
    have := h1.mem_iff.1 ht
    simpa using this
  unfold dueK at h2
  rw [List.mem_filter] at h2
  obtain ⟨h3, h4⟩ := h2
  obtain ⟨i, _, rfl⟩ := List.mem_map.1 h3
  have h5 : (s.tim i).1 = true := by simp at h4; exact h4.1
  obtain ⟨h6, h7⟩ := h.num i h5
  omega

theorem frM_winv {nt nf : Nat} (z : Int) (h : WInv nt nf s) : WInv nt nf (offS s z) := by
  have hne : ∀ i, ((offS s z).tim i).1 = true → (offS s z).tim i = s.tim i := fun i e => by
    by_cases e' : i = z.toNat
    · subst e'; simp [offS, upd] at e
    · simp [offS, upd, e']
  refine ⟨h.wat, ?_, ?_, ?_⟩
  · intro i hi; have h0 := hne i hi; rw [h0] at hi ⊢; exact h.num i hi
  · intro i hi; have h0 := hne i hi; rw [h0] at hi ⊢; exact h.arm i hi
  · intro i j hi hj he
    have h0 := hne i hi
    have h1 := hne j hj
    rw [h0] at hi he
    rw [h1] at hj he
    exact h.uni i j hi hj he

theorem box4' (w : World) (p : Bool) (x y z : Int) : (w.alloc (.cells #[.bool p, .int .i64 x, .int .i64 y, .int .i64 z] 126)).cell? ⟨w.heap.size, 0, none⟩ = some (.bool p) ∧
    (w.alloc (.cells #[.bool p, .int .i64 x, .int .i64 y, .int .i64 z] 126)).cell? ⟨w.heap.size, 1, none⟩ = some (.int .i64 x) ∧
    (w.alloc (.cells #[.bool p, .int .i64 x, .int .i64 y, .int .i64 z] 126)).cell? ⟨w.heap.size, 2, none⟩ = some (.int .i64 y) ∧
    (w.alloc (.cells #[.bool p, .int .i64 x, .int .i64 y, .int .i64 z] 126)).cell? ⟨w.heap.size, 3, none⟩ = some (.int .i64 z) := box4 w p x y z 0
theorem RI.timc (h : RI SA B S w b pv vt T s x) (i : Nat) (hi : i < 8) {t0 : Bool} {t1 t2 t3 : Int} (ht : s.tim i = (t0, t1, t2, t3)) : w.cell? ⟨b, 23 + i * 4, none⟩ = some (.bool t0) ∧ w.cell? ⟨b, 23 + i * 4 + 1, none⟩ = some (.int .i64 t1) ∧ w.cell? ⟨b, 23 + i * 4 + 2, none⟩ = some (.int .i64 t2) ∧ w.cell? ⟨b, 23 + i * 4 + 3, none⟩ = some (.int .i64 t3) := by
  refine ⟨?_, ?_, ?_, ?_⟩
  · have := h.cell (23 + i * 4 + 0) (by omega); rw [img_tim _ _ _ _ _ hi (by omega), ht] at this; exact this
  · have := h.cell (23 + i * 4 + 1) (by omega); rw [img_tim _ _ _ _ _ hi (by omega), ht] at this; exact this
  · have := h.cell (23 + i * 4 + 2) (by omega); rw [img_tim _ _ _ _ _ hi (by omega), ht] at this; exact this
  · have := h.cell (23 + i * 4 + 3) (by omega); rw [img_tim _ _ _ _ _ hi (by omega), ht] at this; exact this

theorem box_kept {W1 w5 : World} {S' S5 : Nat → Prop} {n o q : Nat} {v : Value} (f5 : Fr S' ((W1.drewN n).setCell ⟨b, o, none⟩ v) w5 S5) (hs : q < W1.heap.size) (hS : ¬ S' q) (hne : b ≠ q) (j : Nat) : w5.cell? ⟨q, j, none⟩ = W1.cell? ⟨q, j, none⟩ := by
  have h1 : ((W1.drewN n).setCell ⟨b, o, none⟩ v).heap.size = W1.heap.size := by simp [World.setCell, World.drewN]
  rw [f5.cell q j (by rw [h1]; exact hs) hS, World.cell?_setCell_other _ _ _ _ (by intro e; injection e; omega)]
  rfl

/-- How far the timers that are due have come. -/
def FRel (SA : (Nat → Prop) → World → σ → Prop) (B : Nat) (S : Nat → Prop) (w : World) (b : Nat) (pv : Nat → Value) (g : Int → PS → σ → PS × σ) (nt nf N : Nat) (l : List TM) (fin : PS × σ) (i : Value) (wr : World) : Prop :=
  ∃ k S' vt' T' s' x', k ≤ l.length ∧ i = .int .i64 (k : Nat) ∧ RI SA B S' wr b pv vt' T' s' x' ∧ Fr S w wr S' ∧ frM g (l.drop k) s' x' = fin ∧ QInv N s' ∧ s'.trace.length + s'.fuel.toNat + (l.length - k) ≤ N ∧ WInv nt nf s'

set_option maxHeartbeats 4000000 in
theorem fire_any (L : SrcLaw SA) {rb tyS fnS : Nat} (K : HearSpec SA ask may B rb tyS fnS) (hp : pv 3 = .iface tyS (.pointer (some ⟨rb, 0, none⟩))) (hm : may 1 0) (hm4 : ∀ v, 1 ≤ v → v ≤ 1000000 → may 4 v) (hk : ClockOk ask)
    {w0 : World} (hB : B = w0.heap.size) (hbel : Below w0.heap.size w0 w) (h : RI SA B S w b pv vt T s x) {N nt nf : Nat} {fl : Nat → Nat} {ff : Nat → Nat → O3} (hv : HandsIn w0 (pv 1) nt fl ff) (hn : ∀ i, i < nt → fl i ≤ 32) (hnt : nt ≤ 8) (hnf : nf ≤ 8) (hr : ∀ i, i < nt → ∀ j, j < fl i → rt (ff i j) nt nf = true)
    (hq : QInv N s) (hN : N + 8 ≤ 100000000) (hw : WInv nt nf s) :
    Calls Tryz.prog 96 #[.pointer (some ⟨b, 0, none⟩)] w fun e w' => e = .returned (.tuple #[]) ∧
      RunPost SA B S w b pv (frM (fun z s x => hM ask (ff z.toNat) (fl z.toNat) (fl z.toNat) { s with next := 0 } x) (dueS s) s x).1 (frM (fun z s x => hM ask (ff z.toNat) (fl z.toNat) (fl z.toNat) { s with next := 0 } x) (dueS s) s x).2 w' := by
  have hc := due_any L h
  have hmem := fun t (ht : t ∈ dueS s) => mem_due hw ht
  have hlen : (dueS s).length ≤ 8 := by
    have := sorted_size (dueK s 8).toArray
    have := dueK_length s 8
    unfold dueS
    simp at *
    omega
  generalize dueS s = l at *
  generalize hfin : frM (fun z s x => hM ask (ff z.toNat) (fl z.toNat) (fl z.toNat) { s with next := 0 } x) l s x = fin
  have HC := hide hc
  have HFIN := hide hfin
  have HSB := hide (fun k (hk : S k) => (h.bound k hk).1)
  have HBW := hide (show B ≤ w.heap.size by have := h.bound b h.inB; omega)
  have HBEL := hide hbel
  have HBE := hide hB
  have HV := hide hv
  have HR := hide hr
  have HN := hide hn
  have HQ := hide hq
  have HW := hide hw
  have HM := hide hmem
  clear hc h hbel hB hv hr hn hq hw hmem hfin
  go_enter Tryz.func96, Tryz.ntmps96
  go_wp2_with (go_at_call 116; refine (unhide HC).mono ?_; rintro e w1 ⟨v1, rfl, ⟨la, lc, rfl, hcell⟩, r1, r2⟩; have R1 := hide r1; have R2 := hide r2; have HCE := hide hcell; clear r1 r2 hcell)
  go_loopw [7] (fun i wr => FRel SA B S w1 b pv (fun z s x => hM ask (ff z.toNat) (fl z.toNat) (fl z.toNat) { s with next := 0 } x) nt nf (N + 8) l fin i wr) (fun i _ => l.length - (intOf i).toNat)
  case atStart =>
    have hq := unhide HQ
    have := hq.trace
    exact ⟨0, S, vt, T, s, x, Nat.zero_le _, rfl, unhide R1, Fr.refl S w1, unhide HFIN, ⟨hq.fuel, hq.clock, hq.armings, by omega⟩, by omega, unhide HW⟩
  case round =>
    obtain ⟨k, S', vt', T', s', x', hkl, rfl, q1, q2, hfin, hq, htr, hw⟩ := hrel
    have c66 := (q1.cell 66 (by omega)).trans (by rw [img_fin])
    by_cases hlt : k < l.length
    · rcases unhide HCE with h0 | ⟨g, rfl, ⟨g1, g2, g3⟩, hcell⟩
      · rw [h0] at hlt; simp at hlt
      have hc0 := (q2.cell g (k * 4) g2 g3).trans (hcell k hlt 0 (by omega))
      have hc1 := (q2.cell g (k * 4 + 1) g2 g3).trans (hcell k hlt 1 (by omega))
      have hc2 := (q2.cell g (k * 4 + 2) g2 g3).trans (hcell k hlt 2 (by omega))
      have hc3 := (q2.cell g (k * 4 + 3) g2 g3).trans (hcell k hlt 3 (by omega))
      have hget : l.getD k (false, 0, 0, 0) = l[k] := by simp [List.getD, hlt]
      have hdrop : l.drop k = l[k] :: l.drop (k + 1) := by rw [List.drop_eq_getElem_cons hlt]
      have hmk := unhide HM l[k] (List.getElem_mem hlt)
      rw [hget] at hc0 hc1 hc2 hc3
      rw [hdrop] at hfin
      generalize l[k] = t at *
      obtain ⟨t0, t1, t2, z⟩ := t
      simp only [timV, if_true, if_false, Nat.succ_ne_self, Nat.reduceEqDiff] at hc0 hc1 hc2 hc3 hmk
      simp only [frM] at hfin
      obtain ⟨z0, z8⟩ := hmk
      clear hcell hget hdrop
      by_cases hfi : s'.fin = 0
      · rw [if_neg (by simp [hfi])] at hfin
        have hfb : (s'.fin == 0) = true := by simpa using hfi
        have hbw := (q1.bound b q1.inB).2
        generalize hti : s'.tim z.toNat = a at *
        obtain ⟨a0, a1, a2, a3⟩ := a
        have q1' := q1.alloc L (.cells #[.bool t0, .int .i64 t1, .int .i64 t2, .int .i64 z] 126)
        have q2' := q2.alloc (.cells #[.bool t0, .int .i64 t1, .int .i64 t2, .int .i64 z] 126)
        obtain ⟨d0, d1, d2, d3⟩ := q1'.timc z.toNat (by omega) hti
        have d66 := (q1'.cell 66 (by omega)).trans (by rw [img_fin])
        obtain ⟨e0, e1, e2, e3⟩ := box4' wr t0 t1 t2 z
        have hnq := neqTim a0 t0 a1 a2 a3 t1 t2 z
        have hgd := guard141
        have hSw : ¬ S' wr.heap.size := fun hs => by have := (q1.bound _ hs).2; omega
        have hszW : wr.heap.size < (wr.alloc (.cells #[.bool t0, .int .i64 t1, .int .i64 t2, .int .i64 z] 126)).heap.size := by simp
        generalize hW1 : wr.alloc (.cells #[.bool t0, .int .i64 t1, .int .i64 t2, .int .i64 z] 126) = W1 at *
        have HW1 := hide hW1
        have Q1 := hide q1'
        have Q2 := hide q2'
        clear q1 q2 q1' q2' hW1
        have z8' : z < 8 := by omega
        by_cases hsame : (a0, a1, a2, a3) = (t0, t1, t2, z)
        · rw [if_pos hsame] at hfin
          simp only [Prod.mk.injEq] at hsame
          obtain ⟨rfl, rfl, rfl, rfl⟩ := hsame
          have hdec : (!decide ((a0, a1, a2, a3) = (a0, a1, a2, a3))) = false := by simp
          rw [hdec] at hnq
          have hznt : a3.toNat < nt := by omega
          obtain ⟨ha, hcap, hpv, _, hh⟩ := unhide HV
          rcases hh with hh | ⟨hb, hoff, rfl, hh⟩
          · omega
          obtain ⟨vi, hvi, hops⟩ := hh a3.toNat hznt
          have hhb : hb < w0.heap.size := World.block_lt_of_cell? w0 _ hvi
          have HVI := hide hvi
          have HOPS := hide hops
          have HPV := hide hpv
          have HTI := hide hti
          have HSM : Hid (Small s'.trace.length) := hide (by unfold Small; omega)
          have hSb : S b ∨ w1.heap.size ≤ b := by
            by_cases hs : S b
            · exact .inl hs
            · exact .inr (Nat.le_of_not_lt fun hl => hs ((unhide Q2).old b hl (unhide Q1).inB))
          have hN5 : N + 8 - (l.length - (k + 1)) ≤ 100000000 := by omega
          have HQ5 : Hid (QInv (N + 8 - (l.length - (k + 1))) (offS s' a3)) := hide ⟨hq.fuel, hq.clock, hq.armings, by show (s'.trace ++ [(1, a3, 0)]).length + s'.fuel.toNat ≤ _; rw [List.length_append]; simp only [List.length_cons, List.length_nil]; omega⟩
          have fz := (unhide Q1).free (23 + a3.toNat * 4) (by omega)
          have E := hide hfin
          have HQ' := hide hq
          have HT := hide htr
          have HW' := hide hw
          clear hfin hq htr hw hdec hh hvi hops hpv hti
          generalize s'.fin = fi at *
          go_wp2
          rw [unhide HW1]
          go_quiet (fail)
          go_wp2
          go_region
          go_wp2_with (go_at_call 114; refine (tell_any L (((unhide Q1).drewN L (nq + 1)).set L (23 + a3.toNat * 4) (.bool false) _ (by omega) (set_armed pv vt' s' a3.toNat false (by omega)) rfl) 1 a3 0 (unhide HSM)).mono ?_; rintro e w5 ⟨rfl, S5, vt5, r5, f5⟩; have cb := (box_kept f5 hszW hSw (by omega) 3).trans e3; have fr5 := (((unhide Q2).drewN (nq + 1)).setCell ⟨b, 23 + a3.toNat * 4, none⟩ (.bool false) hSb).trans f5; have bel := below_of (unhide HBEL) (unhide HBE) (unhide HSB) (unhide HBW) ((unhide R2).trans fr5); have cvi := (bel.cell (p := ⟨hb, hoff + a3.toNat, none⟩) hhb).trans (unhide HVI); have BEL := hide (below_of (unhide HBEL) (unhide HBE) (unhide HSB) (unhide HBW) ((unhide R2).trans fr5.drew)); clear bel; have c1 := (r5.cell 1 (by omega)).trans (by rw [img_pv _ _ _ _ (by omega), unhide HPV]); have R5 := hide (r5.drew L); have F5 := hide fr5.drew; have hbw5 := (r5.bound b r5.inB).2; clear r5 f5 fr5)
          clear e0 e1 e2 e3 d0 d1 d2 d3 hc0 hc1 hc2 hc3
          go_region_with (go_at_call 54; refine (handle_any L K hp hm hm4 hk (unhide HBE) (unhide BEL) (unhide R5) (unhide HOPS) (unhide HN _ hznt) hnt hnf (unhide HR _ hznt) (unhide HQ5) hN5).mono ?_; rintro e w6 ⟨rfl, S6, vt6, T6, r6, f6⟩; have R6 := hide r6; have F6 := hide f6; clear r6 f6)
          all_goals
            go_wp2
            go_roundw
            case rel =>
              have hq5 := unhide HQ5
              have hi := hM_inv hk (N := N + 8 - (l.length - (k + 1))) (n := fl a3.toNat) (f := ff a3.toNat) (fl a3.toNat) { offS s' a3 with next := 0 } x' ⟨hq5.fuel, hq5.clock, hq5.armings, hq5.trace⟩
              have ht := hi.trace
              exact ⟨k + 1, S6, vt6, T6, _, _, hlt, by go_num, unhide R6, (unhide F5).trans (unhide F6), unhide E, ⟨hi.fuel, hi.clock, hi.armings, Nat.le_trans ht (Nat.sub_le _ _)⟩, Nat.le_trans (Nat.add_le_add_right ht _) (by omega), hM_winv (unhide HR _ hznt) _ _ _ (Int.le_refl 0) ((frM_winv a3 (unhide HW')).of rfl rfl rfl)⟩
            case measure => simp [intOf]; omega
        · rw [if_neg hsame] at hfin
          have hdec : (!decide ((a0, a1, a2, a3) = (t0, t1, t2, z))) = true := by simp only [hsame]; rfl
          rw [hdec] at hnq
          have E := hide hfin
          have HQ' := hide hq
          have HT := hide htr
          have HW' := hide hw
          clear hfin hq htr hw hdec
          generalize s'.fin = fi at *
          go_wp2
          rw [unhide HW1]
          go_quiet (fail)
          go_wp2
          go_roundw
          case rel =>
            have hq := unhide HQ'
            have htr := unhide HT
            exact ⟨k + 1, S', vt', T', s', x', hlt, by go_num, (unhide Q1).drewN L nq, (unhide Q2).drewN nq, unhide E, hq, by omega, unhide HW'⟩
          case measure => simp [intOf]; omega
      · rw [if_pos hfi] at hfin
        have hfb : (s'.fin == 0) = false := by simpa using hfi
        have E := hide hfin
        have Q1 := hide q1
        have Q2 := hide q2
        have hbw := (q1.bound b q1.inB).2
        obtain ⟨n1, n2⟩ := ne_size hbw
        clear q1 q2 hfin hq htr hw hfi
        generalize s'.fin = fi at *
        go_wp2
        refine bodyPost_ret (v := .tuple #[]) (by simp [results, Tryz.results96, go_sem]) rfl ?_
        rw [← unhide E]
        exact ⟨rfl, S', vt', T', (unhide Q1).alloc L _, (unhide R2).trans ((unhide Q2).alloc _)⟩
    · have e : l.drop k = [] := List.drop_of_length_le (by omega)
      rw [e] at hfin
      have E := hide (show (s', x') = fin from hfin)
      have Q1 := hide q1
      have Q2 := hide q2
      clear q1 q2 hfin hq htr hw e
      generalize s'.fin = fi at *
      go_wp2
      go_end0
      rw [← unhide E]
      exact ⟨rfl, S', vt', T', unhide Q1, (unhide R2).trans (unhide Q2)⟩
end
end Go.Proofs.YtfmbebofllgmoaaGreatDoor
namespace Go.Proofs.YtfmbebofllgmoaaGreatDoor
open Go.RowKit Go.Sort

/-- A program: how many operations the start has, and which; how many timers and files; for each how many operations, and which. -/
structure Pg where
  sn : Nat
  sf : Nat → O3
  tn : Nat
  tl : Nat → Nat
  tf : Nat → Nat → O3
  fn : Nat
  fl : Nat → Nat
  ff : Nat → Nat → O3

/-- A program by Check. -/
structure PgOk (p : Pg) : Prop where
  tn : p.tn ≤ 8
  fn : p.fn ≤ 8
  sl : p.sn ≤ 32
  tl : ∀ i, i < p.tn → p.tl i ≤ 32
  fl : ∀ i, i < p.fn → p.fl i ≤ 32
  sr : ∀ j, j < p.sn → rt (p.sf j) p.tn p.fn = true
  tr : ∀ i, i < p.tn → ∀ j, j < p.tl i → rt (p.tf i j) p.tn p.fn = true
  fr : ∀ i, i < p.fn → ∀ j, j < p.fl i → rt (p.ff i j) p.tn p.fn = true

section
variable {σ : Type} {ask : σ → Int → Int → Rep × σ}
def gT (ask : σ → Int → Int → Rep × σ) (p : Pg) (z : Int) (s : PS) (x : σ) : PS × σ := hM ask (p.tf z.toNat) (p.tl z.toNat) (p.tl z.toNat) { s with next := 0 } x
def gF (ask : σ → Int → Int → Rep × σ) (p : Pg) (z : Int) (s : PS) (x : σ) : PS × σ := hM ask (p.ff z.toNat) (p.fl z.toNat) (p.fl z.toNat) { s with next := 0 } x
/-- The ready files. -/
def wakeM (ask : σ → Int → Int → Rep × σ) (p : Pg) (s : PS) (x : σ) : PS × σ :=
  if (ask x 2 0).1.e = 0 then wkM ask (gF ask p) 8 ((ask x 2 0).1.files.filter fun z => s.wat z.toNat) { s with heard := wrap64 (s.heard + 1) } (ask x 2 0).2 else ({ s with fin := (ask x 2 0).1.e }, (ask x 2 0).2)
/-- A turn. -/
def turnM (ask : σ → Int → Int → Rep × σ) (p : Pg) (s : PS) (x : σ) : PS × σ :=
  if idleB s then ({ s with fin := 2 }, x)
  else if ckB s (ask x 1 0).1 then
    (if (frM (gT ask p) (dueS (ckS s (ask x 1 0).1)) (ckS s (ask x 1 0).1) (ask x 1 0).2).1.fin = 0 then wakeM ask p (frM (gT ask p) (dueS (ckS s (ask x 1 0).1)) (ckS s (ask x 1 0).1) (ask x 1 0).2).1 (frM (gT ask p) (dueS (ckS s (ask x 1 0).1)) (ckS s (ask x 1 0).1) (ask x 1 0).2).2
     else frM (gT ask p) (dueS (ckS s (ask x 1 0).1)) (ckS s (ask x 1 0).1) (ask x 1 0).2)
  else (ckS s (ask x 1 0).1, (ask x 1 0).2)
/-- Turns, k at most. -/
def turnsM (ask : σ → Int → Int → Rep × σ) (p : Pg) : Nat → PS → σ → PS × σ
  | 0, s, x => (s, x)
  | k + 1, s, x => if s.fin = 0 then turnsM ask p k (turnM ask p s x).1 (turnM ask p s x).2 else (s, x)

/-- The source's answers: no question makes more of its clocks, and a clock that is heard is one less; batches are batches. -/
structure SrcOk (ask : σ → Int → Int → Rep × σ) (mes : σ → Nat) : Prop where
  le : ∀ x k o, mes (ask x k o).2 ≤ mes x
  lt : ∀ x, (ask x 1 0).1.e = 0 → mes (ask x 1 0).2 < mes x
  clock : ClockOk ask
  pick : PickOk ask
  files : ∀ x z, z ∈ (ask x 2 0).1.files → 0 ≤ z ∧ z < 8
  most : ∀ x, (ask x 2 0).1.files.length ≤ 8

variable {mes : σ → Nat}
theorem opM_mes (h : SrcOk ask mes) (o : O3) (s : PS) (x : σ) : mes (opM ask o s x).2 ≤ mes x := by
  unfold opM
  have h1 := h.le x 1 0
  have h4 := h.le x 4 o.2.2
  have h0 := Nat.le_refl (mes x)
  exact ite_ok (P := fun q : PS × σ => mes q.2 ≤ mes x) h0 (ite_ok (P := fun q : PS × σ => mes q.2 ≤ mes x) h0 (ite_ok (P := fun q : PS × σ => mes q.2 ≤ mes x) h0 (ite_ok (P := fun q : PS × σ => mes q.2 ≤ mes x) h0 (ite_ok (P := fun q : PS × σ => mes q.2 ≤ mes x) h0 (ite_ok (P := fun q : PS × σ => mes q.2 ≤ mes x) h0 (ite_ok (P := fun q : PS × σ => mes q.2 ≤ mes x) h1 (ite_ok (P := fun q : PS × σ => mes q.2 ≤ mes x) h4 (ite_ok (P := fun q : PS × σ => mes q.2 ≤ mes x) h0 (ite_ok (P := fun q : PS × σ => mes q.2 ≤ mes x) h0 h0)))))))))
theorem hM_mes (h : SrcOk ask mes) {f : Nat → O3} {n : Nat} : ∀ (k : Nat) (s : PS) (x : σ), mes (hM ask f n k s x).2 ≤ mes x
  | 0, _, _ => Nat.le_refl _
  | k + 1, s, x => by
    unfold hM
    by_cases hc : s.next < n ∧ s.fin = 0
    · rw [if_pos hc]
      by_cases hf : s.fuel = 0
      · rw [if_pos hf]; exact Nat.le_refl _
      · rw [if_neg hf]; exact Nat.le_trans (hM_mes h k _ _) (opM_mes h _ _ _)
    · rw [if_neg hc]; exact Nat.le_refl _
theorem frM_mes (h : SrcOk ask mes) (p : Pg) : ∀ (l : List TM) (s : PS) (x : σ), mes (frM (gT ask p) l s x).2 ≤ mes x
  | [], _, _ => Nat.le_refl _
  | t :: r, s, x => by
    unfold frM
    refine ite_ok (P := fun q : PS × σ => mes q.2 ≤ mes x) (Nat.le_refl _) (ite_ok (P := fun q : PS × σ => mes q.2 ≤ mes x) ?_ (frM_mes h p r s x))
    exact Nat.le_trans (frM_mes h p r _ _) (hM_mes h _ _ _)
theorem pk_mes (h : SrcOk ask mes) (n : Nat) (s : PS) (x : σ) : mes (pk ask n s x).2.2.2 ≤ mes x := by
  unfold pk
  exact ite_ok (P := fun q : Int × Bool × PS × σ => mes q.2.2.2 ≤ mes x) (Nat.le_refl _) (h.le x 3 n)
theorem wk1_mes (h : SrcOk ask mes) (p : Pg) (z : Int) (s : PS) (x : σ) : mes (wk1 (gF ask p) z s x).2 ≤ mes x := by
  unfold wk1
  exact ite_ok (P := fun q : PS × σ => mes q.2 ≤ mes x) (hM_mes h _ _ _) (Nat.le_refl _)
theorem wkM_mes (h : SrcOk ask mes) (p : Pg) : ∀ (k : Nat) (l : List Int) (s : PS) (x : σ), mes (wkM ask (gF ask p) k l s x).2 ≤ mes x
  | 0, _, _, _ => Nat.le_refl _
  | k + 1, l, s, x => by
    have h1 := pk_mes h l.length s x
    unfold wkM
    refine ite_ok (P := fun q : PS × σ => mes q.2 ≤ mes x) (Nat.le_refl _) (ite_ok (P := fun q : PS × σ => mes q.2 ≤ mes x) ?_ h1)
    exact Nat.le_trans (wkM_mes h p k _ _ _) (Nat.le_trans (wk1_mes h p _ _ _) h1)
theorem wakeM_mes (h : SrcOk ask mes) (p : Pg) (s : PS) (x : σ) : mes (wakeM ask p s x).2 ≤ mes x := by
  unfold wakeM
  exact ite_ok (P := fun q : PS × σ => mes q.2 ≤ mes x) (Nat.le_trans (wkM_mes h p _ _ _ _) (h.le x 2 0)) (h.le x 2 0)
/-- A turn ends the run, or hears a clock. -/
theorem turnM_mes (h : SrcOk ask mes) (p : Pg) (s : PS) (x : σ) : (turnM ask p s x).1.fin ≠ 0 ∨ mes (turnM ask p s x).2 < mes x := by
  unfold turnM
  by_cases hi : idleB s = true
  · rw [if_pos hi]; exact .inl (by show (2 : Int) ≠ 0; omega)
  rw [if_neg hi]
  by_cases hc : ckB s (ask x 1 0).1 = true
  · rw [if_pos hc]
    have he : (ask x 1 0).1.e = 0 := by unfold ckB at hc; simp at hc; exact hc.1
    have h1 := h.lt x he
    refine .inr ?_
    have h2 := frM_mes h p (dueS (ckS s (ask x 1 0).1)) (ckS s (ask x 1 0).1) (ask x 1 0).2
    refine ite_ok (P := fun q : PS × σ => mes q.2 < mes x) ?_ (by omega)
    have h3 := wakeM_mes h p (frM (gT ask p) (dueS (ckS s (ask x 1 0).1)) (ckS s (ask x 1 0).1) (ask x 1 0).2).1 (frM (gT ask p) (dueS (ckS s (ask x 1 0).1)) (ckS s (ask x 1 0).1) (ask x 1 0).2).2
    omega
  · rw [if_neg hc]
    refine .inl ?_
    show (ckS s (ask x 1 0).1).fin ≠ 0
    unfold ckS
    by_cases he : (ask x 1 0).1.e = 0
    · rw [if_pos he]
      have hlt : (ask x 1 0).1.n < s.clock := by unfold ckB at hc; simp [he] at hc; exact hc
      rw [if_pos hlt]
      show (4 : Int) ≠ 0
      omega
    · rw [if_neg he]; exact he

/-- What a run keeps. -/
def RInv (p : Pg) (N : Nat) (s : PS) : Prop := QInv N s ∧ WInv p.tn p.fn s
theorem QInv.mono {N N' : Nat} {s : PS} (h : QInv N s) (hN : N ≤ N') : QInv N' s := ⟨h.fuel, h.clock, h.armings, Nat.le_trans h.trace hN⟩
theorem RInv.mono {p : Pg} {N N' : Nat} {s : PS} (h : RInv p N s) (hN : N ≤ N') : RInv p N' s := ⟨h.1.mono hN, h.2⟩
theorem hM_rinv (hs : SrcOk ask mes) {p : Pg} {N n : Nat} {f : Nat → O3} (hr : ∀ i, i < n → rt (f i) p.tn p.fn = true) (s : PS) (x : σ) (h : RInv p N s) : RInv p N (hM ask f n n { s with next := 0 } x).1 :=
  ⟨hM_inv hs.clock _ _ _ ⟨h.1.fuel, h.1.clock, h.1.armings, h.1.trace⟩, hM_winv hr _ _ _ (Int.le_refl 0) (h.2.of rfl rfl rfl)⟩
theorem told_rinv {p : Pg} {N : Nat} {s : PS} {o : O3} (h : RInv p N s) : RInv p (N + 1) { s with trace := s.trace ++ [o] } := by
  have h1 := h.1.trace
  exact ⟨⟨h.1.fuel, h.1.clock, h.1.armings, by show (s.trace ++ [o]).length + s.fuel.toNat ≤ N + 1; rw [List.length_append]; simp only [List.length_cons, List.length_nil]; omega⟩, h.2.of rfl rfl rfl⟩
theorem off_rinv {p : Pg} {N : Nat} {s : PS} (z : Int) (h : RInv p N s) : RInv p (N + 1) (offS s z) := by
  have h1 := told_rinv (o := (1, z, 0)) h
  exact ⟨⟨h1.1.fuel, h1.1.clock, h1.1.armings, h1.1.trace⟩, frM_winv z h.2⟩
theorem frM_rinv (hs : SrcOk ask mes) {p : Pg} (hp : PgOk p) : ∀ (l : List TM) (N : Nat) (s : PS) (x : σ), (∀ t, t ∈ l → 0 ≤ t.2.2.2 ∧ t.2.2.2 < p.tn) → RInv p N s → RInv p (N + l.length) (frM (gT ask p) l s x).1
  | [], _, _, _, _, h => h
  | t :: r, N, s, x, hl, h => by
    unfold frM
    have h1 := hl t (List.mem_cons_self ..)
    have hr := fun t ht => hl t (List.mem_cons_of_mem _ ht)
    refine ite_ok (P := fun q : PS × σ => RInv p (N + (t :: r).length) q.1) (h.mono (Nat.le_add_right _ _)) (ite_ok (P := fun q : PS × σ => RInv p (N + (t :: r).length) q.1) ?_ ?_)
    · have h2 := frM_rinv hs hp r (N + 1) _ (gT ask p t.2.2.2 (offS s t.2.2.2) x).2 hr (hM_rinv hs (hp.tr t.2.2.2.toNat (by omega)) _ x (off_rinv t.2.2.2 h))
      exact h2.mono (by simp; omega)
    · exact (frM_rinv hs hp r N s x hr h).mono (by simp)
theorem pk_rinv {p : Pg} {N : Nat} {s : PS} (n : Nat) (x : σ) (h : RInv p N s) : RInv p N (pk ask n s x).2.2.1 := by
  obtain ⟨p1, p2, p3, p4, p5, p6⟩ := pk_same (ask := ask) n s x
  exact ⟨h.1.of p1 p2 p3 p4, h.2.of p5 p6 p3⟩
theorem wk1_rinv (hs : SrcOk ask mes) {p : Pg} (hp : PgOk p) {N : Nat} {s : PS} (z : Int) (x : σ) (h : RInv p N s) : RInv p (N + 1) (wk1 (gF ask p) z s x).1 := by
  unfold wk1
  by_cases hw : s.wat z.toNat = true
  · rw [if_pos hw]; exact hM_rinv hs (hp.fr z.toNat (h.2.wat _ hw)) _ x (told_rinv h)
  · rw [if_neg hw]; exact h.mono (Nat.le_add_right _ _)
theorem wkM_rinv (hs : SrcOk ask mes) {p : Pg} (hp : PgOk p) : ∀ (k : Nat) (N : Nat) (l : List Int) (s : PS) (x : σ), RInv p N s → RInv p (N + k) (wkM ask (gF ask p) k l s x).1
  | 0, _, _, _, _, h => h
  | k + 1, N, l, s, x, h => by
    unfold wkM
    have h1 := pk_rinv (ask := ask) l.length x h
    refine ite_ok (P := fun q : PS × σ => RInv p (N + (k + 1)) q.1) (h.mono (Nat.le_add_right _ _)) (ite_ok (P := fun q : PS × σ => RInv p (N + (k + 1)) q.1) ?_ (h1.mono (Nat.le_add_right _ _)))
    exact (wkM_rinv hs hp k (N + 1) _ _ _ (wk1_rinv hs hp _ _ h1)).mono (by omega)
theorem wakeM_rinv (hs : SrcOk ask mes) {p : Pg} (hp : PgOk p) {N : Nat} {s : PS} (x : σ) (h : RInv p N s) : RInv p (N + 8) (wakeM ask p s x).1 := by
  unfold wakeM
  refine ite_ok (P := fun q : PS × σ => RInv p (N + 8) q.1) (wkM_rinv hs hp 8 N _ _ _ ⟨h.1.of rfl rfl rfl rfl, h.2.of rfl rfl rfl⟩) ?_
  exact ⟨(h.1.mono (Nat.le_add_right N 8)).of rfl rfl rfl rfl, h.2.of rfl rfl rfl⟩
theorem ckS_rinv (hs : SrcOk ask mes) {p : Pg} {N : Nat} {s : PS} (x : σ) (h : RInv p N s) : RInv p N (ckS s (ask x 1 0).1) := by
  refine ⟨?_, ckS_winv h.2 _⟩
  unfold ckS
  by_cases e : (ask x 1 0).1.e = 0
  · rw [if_pos e]
    exact ite_ok (P := QInv N) ⟨h.1.fuel, h.1.clock, h.1.armings, h.1.trace⟩ ⟨h.1.fuel, hs.clock x e, h.1.armings, h.1.trace⟩
  · rw [if_neg e]; exact ⟨h.1.fuel, h.1.clock, h.1.armings, h.1.trace⟩
theorem due_length (s : PS) : (dueS s).length ≤ 8 := by
  have := sorted_size (dueK s 8).toArray
  have := dueK_length s 8
  unfold dueS
  simp at *
  omega
theorem turnM_rinv (hs : SrcOk ask mes) {p : Pg} (hp : PgOk p) {N : Nat} {s : PS} (x : σ) (h : RInv p N s) : RInv p (N + 16) (turnM ask p s x).1 := by
  have hc := ckS_rinv hs x h
  unfold turnM
  refine ite_ok (P := fun q : PS × σ => RInv p (N + 16) q.1) ?_ (ite_ok (P := fun q : PS × σ => RInv p (N + 16) q.1) ?_ (hc.mono (Nat.le_add_right _ _)))
  · exact ⟨(h.1.mono (Nat.le_add_right N 16)).of rfl rfl rfl rfl, h.2.of rfl rfl rfl⟩
  · have h1 := (frM_rinv hs hp (dueS (ckS s (ask x 1 0).1)) N _ (ask x 1 0).2 (fun t ht => mem_due hc.2 ht) hc).mono (show N + (dueS (ckS s (ask x 1 0).1)).length ≤ N + 8 by have := due_length (ckS s (ask x 1 0).1); omega)
    exact ite_ok (P := fun q : PS × σ => RInv p (N + 16) q.1) ((wakeM_rinv hs hp _ h1).mono (by omega)) (h1.mono (by omega))
end
end Go.Proofs.YtfmbebofllgmoaaGreatDoor
namespace Go.Proofs.YtfmbebofllgmoaaGreatDoor
open Go.RowKit Go.Sort
attribute [local go_sem ↓] Go.wp_at_zero Go.wp_at_succ

/-- The questions that a run asks. -/
structure MayOk (may : Int → Int → Prop) : Prop where
  clock : may 1 0
  batch : may 2 0
  pick : ∀ n : Nat, 2 ≤ n → n ≤ 8 → may 3 n
  lot : ∀ v, 1 ≤ v → v ≤ 1000000 → may 4 v
/-- The program in memory. -/
structure PgAt (w0 : World) (pv : Nat → Value) (p : Pg) : Prop where
  s : OpsIn w0 (pv 0) p.sn p.sf
  t : HandsIn w0 (pv 1) p.tn p.tl p.tf
  f : HandsIn w0 (pv 2) p.fn p.fl p.ff

section
variable {σ : Type} {SA : (Nat → Prop) → World → σ → Prop} {ask : σ → Int → Int → Rep × σ} {may : Int → Int → Prop} {mes : σ → Nat} {B : Nat} {S T : Nat → Prop} {w : World} {b : Nat} {pv : Nat → Value} {vt : Value} {s : PS} {x : σ}

set_option maxHeartbeats 2000000 in
theorem turn_any (L : SrcLaw SA) {rb tyS fnS : Nat} (K : HearSpec SA ask may B rb tyS fnS) (hp : pv 3 = .iface tyS (.pointer (some ⟨rb, 0, none⟩))) (hm : MayOk may) (hs : SrcOk ask mes)
    {w0 : World} (hB : B = w0.heap.size) (hbel : Below w0.heap.size w0 w) (h : RI SA B S w b pv vt T s x) {p : Pg} (hv : PgAt w0 pv p) (ho : PgOk p) {N : Nat} (hq : RInv p N s) (hN : N + 16 ≤ 100000000) :
    Calls Tryz.prog 55 #[.pointer (some ⟨b, 0, none⟩)] w fun e w' => e = .returned (.tuple #[]) ∧ RunPost SA B S w b pv (turnM ask p s x).1 (turnM ask p s x).2 w' := by
  have HSB := hide (fun k (hk : S k) => (h.bound k hk).1)
  have HBW := hide (show B ≤ w.heap.size by have := h.bound b h.inB; omega)
  have hid := hide (idle_any L h)
  have hb0 := (h.bound b h.inB).2
  have HIN := hide h.inB
  have hck := fun (w1 : World) (r : RI SA B S w1 b pv vt T s x) => hearClock_any L K hp r hm.clock
  have HCK := hide hck
  have HQ1 := hide (ckS_rinv hs x hq)
  clear hck h
  cases hi : idleB s
  · have e0 : turnM ask p s x = if ckB s (ask x 1 0).1 then
        (if (frM (gT ask p) (dueS (ckS s (ask x 1 0).1)) (ckS s (ask x 1 0).1) (ask x 1 0).2).1.fin = 0 then wakeM ask p (frM (gT ask p) (dueS (ckS s (ask x 1 0).1)) (ckS s (ask x 1 0).1) (ask x 1 0).2).1 (frM (gT ask p) (dueS (ckS s (ask x 1 0).1)) (ckS s (ask x 1 0).1) (ask x 1 0).2).2
         else frM (gT ask p) (dueS (ckS s (ask x 1 0).1)) (ckS s (ask x 1 0).1) (ask x 1 0).2)
      else (ckS s (ask x 1 0).1, (ask x 1 0).2) := by unfold turnM; rw [if_neg (by rw [hi]; simp)]
    rw [e0]
    rw [hi] at hid
    clear e0 hi
    generalize ckS s (ask x 1 0).1 = s1 at *
    generalize (ask x 1 0).2 = x1 at *
    cases hcb : ckB s (ask x 1 0).1
    · rw [hcb] at HCK
      clear hcb
      rw [if_neg (by simp)]
      go_enter Tryz.func55, Tryz.ntmps55
      go_wp2_with (first | (go_at_call 94; refine (unhide hid).mono ?_; rintro e w1 ⟨rfl, r1, r2⟩; have R1 := hide r1; have R2 := hide r2; clear r1 r2) | (go_at_call 95; refine (unhide HCK _ (unhide R1)).mono ?_; rintro e w2 ⟨rfl, S2, vt2, T2, r3, r4⟩; have R3 := hide r3; have R4 := hide r4; clear r3 r4))
      refine bodyPost_ret (v := .tuple #[]) (by simp [results, Tryz.results55, go_sem]) rfl ?_
      exact ⟨rfl, S2, vt2, T2, unhide R3, (unhide R2).trans (unhide R4)⟩
    · rw [hcb] at HCK
      clear hcb
      rw [if_pos rfl]
      have hfr := hide (frM_rinv hs ho (dueS s1) N s1 x1 (fun t ht => mem_due (unhide HQ1).2 ht) (unhide HQ1))
      have hdl := due_length s1
      generalize hF : frM (gT ask p) (dueS s1) s1 x1 = F at *
      have HF := hide hF
      clear hF
      obtain ⟨s2, x2⟩ := F
      simp only at hfr ⊢
      by_cases hf0 : s2.fin = 0
      · rw [if_pos hf0]
        have hfb : (s2.fin == 0) = true := by simpa using hf0
        clear hf0
        go_enter Tryz.func55, Tryz.ntmps55
        go_wp2_with (first | (go_at_call 94; refine (unhide hid).mono ?_; rintro e w1 ⟨rfl, r1, r2⟩; have R1 := hide r1; have R2 := hide r2; clear r1 r2) | (go_at_call 95; refine (unhide HCK _ (unhide R1)).mono ?_; rintro e w2 ⟨rfl, S2, vt2, T2, r3, r4⟩; have R3 := hide r3; have R4 := hide ((unhide R2).trans r4); clear r3 r4) | (go_at_call 96; refine (fire_any L K hp hm.clock hm.lot hs.clock hB (below_of hbel hB (unhide HSB) (unhide HBW) (unhide R4)) (unhide R3) hv.t ho.tl ho.tn ho.fn ho.tr (unhide HQ1).1 (by omega) (unhide HQ1).2).mono ?_; rintro e w3 ⟨rfl, S3, vt3, T3, r5, r6⟩; rw [show frM (fun z s x => hM ask (p.tf z.toNat) (p.tl z.toNat) (p.tl z.toNat) { s with next := 0 } x) (dueS s1) s1 x1 = (s2, x2) from unhide HF] at r5; have c66 := (r5.cell 66 (by omega)).trans (by rw [img_fin]); have R5 := hide r5; have R6 := hide ((unhide R4).trans r6); clear r5 r6) | (go_at_call 97; refine (wake_any L K hp hm.clock hm.batch hm.pick hm.lot hs.clock hs.pick hB (below_of hbel hB (unhide HSB) (unhide HBW) (unhide R6)) (unhide R5) hv.f ho.fl ho.tn ho.fn ho.fr (unhide hfr).1 (by omega) (unhide hfr).2 (hs.files x2) (hs.most x2)).mono ?_; rintro e w4 ⟨rfl, S4, vt4, T4, r7, r8⟩; have R7 := hide r7; have R8 := hide ((unhide R6).trans r8); clear r7 r8))
        go_end0
        exact ⟨rfl, S4, vt4, T4, unhide R7, unhide R8⟩
      · rw [if_neg hf0]
        have hfb : (s2.fin == 0) = false := by simpa using hf0
        clear hf0
        go_enter Tryz.func55, Tryz.ntmps55
        go_wp2_with (first | (go_at_call 94; refine (unhide hid).mono ?_; rintro e w1 ⟨rfl, r1, r2⟩; have R1 := hide r1; have R2 := hide r2; clear r1 r2) | (go_at_call 95; refine (unhide HCK _ (unhide R1)).mono ?_; rintro e w2 ⟨rfl, S2, vt2, T2, r3, r4⟩; have R3 := hide r3; have R4 := hide ((unhide R2).trans r4); clear r3 r4) | (go_at_call 96; refine (fire_any L K hp hm.clock hm.lot hs.clock hB (below_of hbel hB (unhide HSB) (unhide HBW) (unhide R4)) (unhide R3) hv.t ho.tl ho.tn ho.fn ho.tr (unhide HQ1).1 (by omega) (unhide HQ1).2).mono ?_; rintro e w3 ⟨rfl, S3, vt3, T3, r5, r6⟩; rw [show frM (fun z s x => hM ask (p.tf z.toNat) (p.tl z.toNat) (p.tl z.toNat) { s with next := 0 } x) (dueS s1) s1 x1 = (s2, x2) from unhide HF] at r5; have c66 := (r5.cell 66 (by omega)).trans (by rw [img_fin]); have R5 := hide r5; have R6 := hide ((unhide R4).trans r6); clear r5 r6))
        refine bodyPost_ret (v := .tuple #[]) (by simp [results, Tryz.results55, go_sem]) rfl ?_
        exact ⟨rfl, S3, vt3, T3, unhide R5, unhide R6⟩
  · have e0 : turnM ask p s x = ({ s with fin := 2 }, x) := by unfold turnM; rw [if_pos hi]
    rw [e0]
    rw [hi] at hid
    clear e0 hi
    go_enter Tryz.func55, Tryz.ntmps55
    go_wp2_with (go_at_call 94; refine (unhide hid).mono ?_; rintro e w1 ⟨rfl, r1, r2⟩; have c66 := r1.cell 66 (by omega); have f66 := r1.free 66 (by omega); have R1 := hide r1; have R2 := hide r2; generalize img pv vt s 66 = old at c66; clear r1 r2)
    refine bodyPost_ret (v := .tuple #[]) (by simp [results, Tryz.results55, go_sem]) rfl ?_
    exact ⟨rfl, S, vt, T, (unhide R1).set L 66 (.int .i64 2) _ (by omega) (set_fin pv vt _ 2) rfl, (unhide R2).setCell _ _ (.inl (unhide HIN))⟩
end
end Go.Proofs.YtfmbebofllgmoaaGreatDoor
namespace Go.Proofs.YtfmbebofllgmoaaGreatDoor
open Go.RowKit Go.Sort
attribute [local go_sem ↓] Go.wp_at_zero Go.wp_at_succ

def s0 (fu : Int) : PS := ⟨fu, 0, fun _ => 0, 0, fun _ => (false, 0, 0, 0), 0, fun _ => false, [], 0, 0⟩
def pvOf (v1 v2 v3 sv : Value) (k : Nat) : Value := if k = 0 then v1 else if k = 1 then v2 else if k = 2 then v3 else sv
def cells67 (v1 v2 v3 sv : Value) (fu : Int) : Array Value := ((List.range 67).map (img (pvOf v1 v2 v3 sv) (.slice none 0 0) (s0 fu))).toArray
theorem cells67_chain (v1 v2 v3 : Value) (rb tyS : Nat) (fu : Int) : (((((((((((((((((Tryz.zeroCells130.setIfInBounds 0 v1).setIfInBounds 1 v2).setIfInBounds 2 v3).setIfInBounds 3 (.iface tyS (.pointer (some ⟨rb, 0, none⟩)))).setIfInBounds 4 .nilFunc).setIfInBounds 5 (.func (Fn.func 83) #[] #[])).setIfInBounds 6 (.func (Fn.func 84) #[] #[])).setIfInBounds 7 (.func (Fn.func 85) #[] #[])).setIfInBounds 8 (.func (Fn.func 86) #[] #[])).setIfInBounds 9 (.func (Fn.func 87) #[] #[])).setIfInBounds 10 (.func (Fn.func 88) #[] #[])).setIfInBounds 11 (.func (Fn.func 89) #[] #[])).setIfInBounds 12 (.func (Fn.func 90) #[] #[])).setIfInBounds 13 (.func (Fn.func 91) #[] #[])).setIfInBounds 14 (.func (Fn.func 92) #[] #[])).setIfInBounds 15 (.func (Fn.func 93) #[] #[])).setIfInBounds 16 (.int .i64 fu)) = cells67 v1 v2 v3 (.iface tyS (.pointer (some ⟨rb, 0, none⟩))) fu := by kernel_rfl
theorem cells67_get (v1 v2 v3 sv : Value) (fu : Int) (k : Nat) (hk : k < 67) : (cells67 v1 v2 v3 sv fu)[k]? = some (img (pvOf v1 v2 v3 sv) (.slice none 0 0) (s0 fu) k) := by
  unfold cells67
  simp [hk]
set_option maxHeartbeats 2000000 in
theorem actions_any (w : World) : Calls Tryz.prog 53 #[] w fun e w' => e = .returned (.agg #[.nilFunc, .func (Fn.func 83) #[] #[], .func (Fn.func 84) #[] #[], .func (Fn.func 85) #[] #[], .func (Fn.func 86) #[] #[], .func (Fn.func 87) #[] #[], .func (Fn.func 88) #[] #[], .func (Fn.func 89) #[] #[], .func (Fn.func 90) #[] #[], .func (Fn.func 91) #[] #[], .func (Fn.func 92) #[] #[], .func (Fn.func 93) #[] #[]]) ∧ w' = w.alloc (.cells #[.nilFunc, .func (Fn.func 83) #[] #[], .func (Fn.func 84) #[] #[], .func (Fn.func 85) #[] #[], .func (Fn.func 86) #[] #[], .func (Fn.func 87) #[] #[], .func (Fn.func 88) #[] #[], .func (Fn.func 89) #[] #[], .func (Fn.func 90) #[] #[], .func (Fn.func 91) #[] #[], .func (Fn.func 92) #[] #[], .func (Fn.func 93) #[] #[]] 123) := by
  go_enter Tryz.func53, Tryz.ntmps53
  go_wp2
  refine bodyPost_ret (v := .agg #[.nilFunc, .func (Fn.func 83) #[] #[], .func (Fn.func 84) #[] #[], .func (Fn.func 85) #[] #[], .func (Fn.func 86) #[] #[], .func (Fn.func 87) #[] #[], .func (Fn.func 88) #[] #[], .func (Fn.func 89) #[] #[], .func (Fn.func 90) #[] #[], .func (Fn.func 91) #[] #[], .func (Fn.func 92) #[] #[], .func (Fn.func 93) #[] #[]]) (by simp [results, Tryz.results53, go_sem]) rfl ?_
  exact ⟨rfl, rfl⟩

section
variable {σ : Type} {SA : (Nat → Prop) → World → σ → Prop} {ask : σ → Int → Int → Rep × σ} {may : Int → Int → Prop} {mes : σ → Nat} {B : Nat} {S T : Nat → Prop} {w : World} {b : Nat} {pv : Nat → Value} {vt : Value} {s : PS} {x : σ}
/-- A whole run: what it ends with. -/
def runM (ask : σ → Int → Int → Rep × σ) (p : Pg) (k : Nat) (f : Int) (x : σ) : PS × σ := turnsM ask p k (hM ask p.sf p.sn p.sn (s0 (min (max f 0) 5000)) x).1 (hM ask p.sf p.sn p.sn (s0 (min (max f 0) 5000)) x).2

def RRel (SA : (Nat → Prop) → World → σ → Prop) (ask : σ → Int → Int → Rep × σ) (mes : σ → Nat) (B : Nat) (S : Nat → Prop) (w : World) (b : Nat) (pv : Nat → Value) (p : Pg) (fin : PS × σ) (k : Nat) (wr : World) : Prop :=
  ∃ S' vt' T' s' x' N', RI SA B S' wr b pv vt' T' s' x' ∧ Fr S w wr S' ∧ turnsM ask p k s' x' = fin ∧ RInv p N' s' ∧ N' + 16 * k ≤ 100000000 ∧ (s'.fin ≠ 0 ∨ mes x' < k)

theorem turnsM_stop (p : Pg) (k : Nat) (s : PS) (x : σ) (h : s.fin ≠ 0) : turnsM ask p k s x = (s, x) := by
  cases k with
  | zero => rfl
  | succ k => simp only [turnsM]; rw [if_neg h]

theorem frozen_rowE {w : World} {g e : Nat} {cur : Array Value} (hb : w.heap[g]? = some (.cells cur e (0, 0))) (j : Nat) : w.frozen? ⟨g, j, none⟩ = false := by simp [World.frozen?, hb]
theorem run_start (L : SrcLaw SA) (hx : SA T w x) (hT : ∀ k, T k → B ≤ k ∧ k < w.heap.size) (v1 v2 v3 : Value) (rb tyS : Nat) (fu : Int) (o1 o2 : Obj) {wc : World}
    (hwc : wc = ((((w.alloc (.cells #[v1, v2, v3] 33)).alloc o1).alloc o2).alloc (.cells (cells67 v1 v2 v3 (.iface tyS (.pointer (some ⟨rb, 0, none⟩))) fu) 130)).drew) (hB : B ≤ w.heap.size) :
    RI SA B (fun k => k = w.heap.size + 1 + 1 + 1 ∨ T k) wc (w.heap.size + 1 + 1 + 1) (pvOf v1 v2 v3 (.iface tyS (.pointer (some ⟨rb, 0, none⟩)))) (.slice none 0 0) T (s0 fu) x ∧ Fr T w wc (fun k => k = w.heap.size + 1 + 1 + 1 ∨ T k) ∧
      wc.cell? ⟨w.heap.size, 0, none⟩ = some v1 ∧ wc.heap[w.heap.size + 1]? = some o1 ∧ w.heap.size + 1 + 1 + 1 < wc.heap.size := by
  subst hwc
  have z1 : (((w.alloc (.cells #[v1, v2, v3] 33)).alloc o1).alloc o2).heap.size = w.heap.size + 1 + 1 + 1 := by simp
  have z2 : ((w.alloc (.cells #[v1, v2, v3] 33)).alloc o1).heap.size = w.heap.size + 1 + 1 := by simp
  have z3 : (w.alloc (.cells #[v1, v2, v3] 33)).heap.size = w.heap.size + 1 := by simp
  have hrow : ((((w.alloc (.cells #[v1, v2, v3] 33)).alloc o1).alloc o2).alloc (.cells (cells67 v1 v2 v3 (.iface tyS (.pointer (some ⟨rb, 0, none⟩))) fu) 130)).drew.heap[w.heap.size + 1 + 1 + 1]? = some (.cells (cells67 v1 v2 v3 (.iface tyS (.pointer (some ⟨rb, 0, none⟩))) fu) 130) := by
    have := heap_alloc_new (((w.alloc (.cells #[v1, v2, v3] 33)).alloc o1).alloc o2) (.cells (cells67 v1 v2 v3 (.iface tyS (.pointer (some ⟨rb, 0, none⟩))) fu) 130)
    rw [z1] at this
    exact this
  have hfr : Fr T w ((((w.alloc (.cells #[v1, v2, v3] 33)).alloc o1).alloc o2).alloc (.cells (cells67 v1 v2 v3 (.iface tyS (.pointer (some ⟨rb, 0, none⟩))) fu) 130)).drew T := ((((Fr.refl T w).alloc _).alloc _).alloc _).alloc _ |>.drew
  have hsz : w.heap.size + 1 + 1 + 1 < ((((w.alloc (.cells #[v1, v2, v3] 33)).alloc o1).alloc o2).alloc (.cells (cells67 v1 v2 v3 (.iface tyS (.pointer (some ⟨rb, 0, none⟩))) fu) 130)).drew.heap.size := by
    show _ < (World.alloc _ _).heap.size
    simp
  have hsame : ∀ k, k < w.heap.size → ((((w.alloc (.cells #[v1, v2, v3] 33)).alloc o1).alloc o2).alloc (.cells (cells67 v1 v2 v3 (.iface tyS (.pointer (some ⟨rb, 0, none⟩))) fu) 130)).drew.heap[k]? = w.heap[k]? := fun k hk =>
    (Below.heap_alloc _ _ _ (by rw [z1]; omega)).trans ((Below.heap_alloc _ _ _ (by rw [z2]; omega)).trans ((Below.heap_alloc _ _ _ (by rw [z3]; omega)).trans (Below.heap_alloc _ _ _ hk)))
  refine ⟨⟨?_, ?_, World.ownsRow_nil _ _ _ _, ?_, .inl rfl, ?_, ?_⟩, ⟨hfr.os, hfr.tape, hfr.output, hfr.size, hfr.same, ?_⟩, ?_, ?_, hsz⟩
  · rintro k (rfl | hk)
    · exact ⟨by omega, hsz⟩
    · have := hT k hk
      exact ⟨this.1, by omega⟩
  · intro k hk
    refine ⟨?_, frozen_rowE hrow k⟩
    rw [cell_of_row _ _ k _ 130 (0, 0) hrow]
    exact cells67_get v1 v2 v3 _ fu k hk
  · exact L.keep hx (fun k hk => hsame k (hT k hk).2) hfr.size
  · intro q hq
    simp [Value.ownBlock] at hq
  · intro k hk
    have := hT k hk
    exact ⟨.inr hk, by omega⟩
  · rintro k hk (rfl | h)
    · omega
    · exact h
  · have h1 : ((((w.alloc (.cells #[v1, v2, v3] 33)).alloc o1).alloc o2).alloc (.cells (cells67 v1 v2 v3 (.iface tyS (.pointer (some ⟨rb, 0, none⟩))) fu) 130)).drew.heap[w.heap.size]? = some (.cells #[v1, v2, v3] 33) :=
      (Below.heap_alloc _ _ _ (by rw [z1]; omega)).trans ((Below.heap_alloc _ _ _ (by rw [z2]; omega)).trans ((Below.heap_alloc _ _ _ (by rw [z3]; omega)).trans (heap_alloc_new w _)))
    exact cell_of_row _ _ 0 _ 33 (0, 0) h1
  · have h1 := heap_alloc_new (w.alloc (.cells #[v1, v2, v3] 33)) o1
    rw [z3] at h1
    exact (Below.heap_alloc _ _ _ (by rw [z1]; omega)).trans ((Below.heap_alloc _ _ _ (by rw [z2]; omega)).trans h1)

set_option maxHeartbeats 4000000 in
set_option maxRecDepth 100000 in
theorem run_any (L : SrcLaw SA) {rb tyS fnS : Nat} (K : HearSpec SA ask may B rb tyS fnS) (hm : MayOk may) (hs : SrcOk ask mes) {w0 : World} (hB : B = w0.heap.size) (hbel : Below w0.heap.size w0 w) (hT : ∀ k, T k → B ≤ k ∧ k < w.heap.size) (hx : SA T w x)
    (v1 v2 v3 : Value) {p : Pg} (hv : PgAt w0 (pvOf v1 v2 v3 (.iface tyS (.pointer (some ⟨rb, 0, none⟩)))) p) (ho : PgOk p) (f : Int) (hM0 : mes x ≤ 5000000) :
    Calls Tryz.prog 29 #[.agg #[v1, v2, v3], .iface tyS (.pointer (some ⟨rb, 0, none⟩)), .int .i64 f] w fun e w' => ∃ vt' s' S' T' b, e = .returned (.tuple #[vt', .agg #[.int .i64 s'.fin, .int .i64 (s'.reg 0), .int .i64 (s'.reg 1), .int .i64 (s'.reg 2), .int .i64 (s'.reg 3), .int .i64 s'.clock, .int .i64 s'.heard]]) ∧
      s' = (runM ask p (mes x + 1) f x).1 ∧ RI SA B S' w' b (pvOf v1 v2 v3 (.iface tyS (.pointer (some ⟨rb, 0, none⟩)))) vt' T' s' (runM ask p (mes x + 1) f x).2 ∧ Fr T w w' S' := by
  have hact := actions_any
  have HBEL := hide hbel
  have HBWW := hide (show B ≤ w.heap.size from hB ▸ hbel.size)
  have HBE := hide hB
  have HT := hide hT
  have HX := hide hx
  have HV := hide hv
  have HM0 := hide hM0
  clear hbel hB hT hx hv hM0
  have HCH := hide (cells67_chain v1 v2 v3 rb tyS (min (max f 0) 5000))
  go_enter Tryz.func29, Tryz.ntmps29
  go_upto_region 1 with fail
  go_cut [8] (fun u wc => u = .pointer (some ⟨w.heap.size + 1 + 1 + 1, 0, none⟩) ∧ wc = ((((w.alloc (.cells #[v1, v2, v3] 33)).alloc (.cells #[.int .i64 0, .int .i64 0, .int .i64 0, .int .i64 0, .int .i64 0, .int .i64 0, .int .i64 0] 37)).alloc (.cells #[.nilFunc, .func (Fn.func 83) #[] #[], .func (Fn.func 84) #[] #[], .func (Fn.func 85) #[] #[], .func (Fn.func 86) #[] #[], .func (Fn.func 87) #[] #[], .func (Fn.func 88) #[] #[], .func (Fn.func 89) #[] #[], .func (Fn.func 90) #[] #[], .func (Fn.func 91) #[] #[], .func (Fn.func 92) #[] #[], .func (Fn.func 93) #[] #[]] 123)).alloc (.cells (cells67 v1 v2 v3 (.iface tyS (.pointer (some ⟨rb, 0, none⟩))) (min (max f 0) 5000)) 130)).drew)
  case first =>
   go_region_held3 (fun w' => w'.cell? ⟨w.heap.size, 0, none⟩ = some v1 ∧ w'.cell? ⟨w.heap.size, 1, none⟩ = some v2 ∧ w'.cell? ⟨w.heap.size, 2, none⟩ = some v3) (simp [go_sem, World.cell?_alloc_past]) (first | (go_at_call 53; refine (hact _).mono ?_; rintro e w' ⟨rfl, rfl⟩))
   all_goals (go_wp2_with fail; go_meet; exact ⟨rfl, by rw [← unhide HCH]⟩)
  case rest =>
  obtain ⟨rfl, hwc⟩ := hcut
  clear HCH hact
  obtain ⟨hri, hfr, e0, hF, hbz⟩ := run_start L (unhide HX) (unhide HT) v1 v2 v3 rb tyS (min (max f 0) 5000) (.cells #[.int .i64 0, .int .i64 0, .int .i64 0, .int .i64 0, .int .i64 0, .int .i64 0, .int .i64 0] 37) (.cells #[.nilFunc, .func (Fn.func 83) #[] #[], .func (Fn.func 84) #[] #[], .func (Fn.func 85) #[] #[], .func (Fn.func 86) #[] #[], .func (Fn.func 87) #[] #[], .func (Fn.func 88) #[] #[], .func (Fn.func 89) #[] #[], .func (Fn.func 90) #[] #[], .func (Fn.func 91) #[] #[], .func (Fn.func 92) #[] #[], .func (Fn.func 93) #[] #[]] 123) hwc (unhide HBWW)
  clear hwc
  have hne : w.heap.size + 1 ≠ w.heap.size + 1 + 1 + 1 := by omega
  generalize w.heap.size + 1 + 1 + 1 = b at *
  have hFS : ¬ (fun k => k = b ∨ T k) (w.heap.size + 1) := by
    rintro (h | h)
    · exact hne h
    · have := (unhide HT _ h).2; omega
  have hFz : w.heap.size + 1 < wc.heap.size := by
    have := (Array.getElem?_eq_some_iff.1 hF).1
    exact this
  have hBW := hide (show B ≤ wc.heap.size by have := hri.bound b hri.inB; omega)
  generalize (fun k => k = b ∨ T k) = S at *
  have hSB := hide (fun k (hk : S k) => (hri.bound k hk).1)
  have hv := unhide HV
  have hp3 : pvOf v1 v2 v3 (.iface tyS (.pointer (some ⟨rb, 0, none⟩))) 3 = .iface tyS (.pointer (some ⟨rb, 0, none⟩)) := rfl
  have hop : OpsIn w0 v1 p.sn p.sf := hv.s
  generalize hpv : pvOf v1 v2 v3 (.iface tyS (.pointer (some ⟨rb, 0, none⟩))) = pv at *
  have HPV := hide hpv
  clear hpv
  have hbel := (unhide HBEL).trans (unhide HBE ▸ hfr.below (fun k hk => (unhide HT k hk).1) (unhide HBWW))
  have hq0 : RInv p 5000 (s0 (min (max f 0) 5000)) := by
    refine ⟨⟨⟨by show 0 ≤ min (max f 0) 5000; omega, by show min (max f 0) 5000 ≤ 5000; omega⟩, ⟨by show (0 : Int) ≤ 0; omega, by show (0 : Int) ≤ 1099511627776; omega⟩, ⟨by show (0 : Int) ≤ 0; omega, by show (0 : Int) + min (max f 0) 5000 ≤ 5000; omega⟩, by show 0 + (min (max f 0) 5000).toNat ≤ 5000; omega⟩, ⟨fun _ h => absurd h Bool.false_ne_true, fun _ h => absurd h Bool.false_ne_true, fun _ h => absurd h Bool.false_ne_true, fun _ _ h => absurd h Bool.false_ne_true⟩⟩
  have h60 := handle_any L K hp3 hm.clock hm.lot hs.clock (unhide HBE) hbel hri hop ho.sl ho.tn ho.fn ho.sr hq0.1 (by omega)
  have hq1 := hM_rinv hs ho.sr (s0 (min (max f 0) 5000)) x hq0
  have hm1 := hM_mes hs (f := p.sf) (n := p.sn) p.sn { s0 (min (max f 0) 5000) with next := 0 } x
  have hrun : runM ask p (mes x + 1) f x = turnsM ask p (mes x + 1) (hM ask p.sf p.sn p.sn { s0 (min (max f 0) 5000) with next := 0 } x).1 (hM ask p.sf p.sn p.sn { s0 (min (max f 0) 5000) with next := 0 } x).2 := rfl
  generalize hM ask p.sf p.sn p.sn { s0 (min (max f 0) 5000) with next := 0 } x = Q1 at *
  generalize hfin : runM ask p (mes x + 1) f x = fin at *
  have HR := hide hrun
  have HFN := hide hfin
  have H60 := hide h60
  have HQ1 := hide hq1
  have HM1 := hide hm1
  have HFR := hide hfr
  have HV' := hide hv
  have HBL := hide hbel
  have HF := hide hF
  clear hrun h60 hq1 hm1 hfr hv hbel hri hq0 hop hF hfin HV HX HT
  go_wp2_with (go_at_call 54; refine (unhide H60).mono ?_; rintro e w1 ⟨rfl, S1, vt1, T1, r1, r2⟩; have R1 := hide r1; have R2 := hide r2; clear r1 r2)
  go_loopg [21] (mes x + 1) (fun k u wr => RRel SA ask mes B S wc b pv p fin k wr)
  case atStart => exact ⟨S1, vt1, T1, Q1.1, Q1.2, 5000, unhide R1, unhide R2, (unhide HR).symm, unhide HQ1, by have := unhide HM0; omega, .inr (by have := unhide HM1; omega)⟩
  case round =>
    obtain ⟨S', vt', T', s', x', N', q1, q2, q3, q4, q5, q6⟩ := hrel
    have c66 := (q1.cell 66 (by omega)).trans (by rw [img_fin])
    by_cases hfi : s'.fin = 0
    · obtain ⟨k', rfl⟩ : ∃ k', gk = k' + 1 := ⟨gk - 1, by omega⟩
      have hfb : (s'.fin == 0) = true := by simpa using hfi
      have hu : turnsM ask p (k' + 1) s' x' = turnsM ask p k' (turnM ask p s' x').1 (turnM ask p s' x').2 := by simp only [turnsM]; rw [if_pos hfi]
      have h61 := turn_any L K hp3 hm hs (unhide HBE) (below_of (unhide HBL) (unhide HBE) (unhide hSB) (unhide hBW) q2) q1 (unhide HV') ho q4 (by omega)
      have hi := turnM_rinv hs ho x' q4
      have hme := turnM_mes hs p s' x'
      have H61 := hide h61
      have E := hide (q3.symm.trans hu)
      have HI := hide hi
      have HME := hide hme
      have Q2 := hide q2
      have hlt : mes x' < k' + 1 := by
        rcases q6 with h | h
        · exact absurd hfi h
        · exact h
      clear q1 q2 q3 q4 q6 hu h61 hi hme hfi
      generalize s'.fin = fi at *
      go_wp2_with (go_at_call 55; refine (unhide H61).mono ?_; rintro e w2 ⟨rfl, S2, vt2, T2, r3, r4⟩; have R3 := hide r3; have R4 := hide r4; clear r3 r4)
      go_roundg k'
      case rel =>
        refine ⟨S2, vt2, T2, _, _, N' + 16, unhide R3, (unhide Q2).trans (unhide R4), (unhide E).symm, unhide HI, by omega, ?_⟩
        rcases unhide HME with h | h
        · exact .inl h
        · exact .inr (by omega)
      case measure => omega
    · have e : (s', x') = fin := by rw [← q3, turnsM_stop p gk s' x' hfi]
      have hfb : (s'.fin == 0) = false := by simpa using hfi
      have c64 := (q1.cell 64 (by omega)).trans (by rw [img_trace])
      have c18 := (q1.cell 18 (by omega)).trans (by rw [img_reg _ _ _ 0 (by omega)])
      have c19 := (q1.cell 19 (by omega)).trans (by rw [img_reg _ _ _ 1 (by omega)])
      have c20 := (q1.cell 20 (by omega)).trans (by rw [img_reg _ _ _ 2 (by omega)])
      have c21 := (q1.cell 21 (by omega)).trans (by rw [img_reg _ _ _ 3 (by omega)])
      have c22 := (q1.cell 22 (by omega)).trans (by rw [img_clock])
      have c65 := (q1.cell 65 (by omega)).trans (by rw [img_heard])
      have hFb := (q2.same (w.heap.size + 1) hFz hFS).trans (unhide HF)
      have g0 : wr.cell? ⟨w.heap.size + 1, 0, none⟩ = some (.int .i64 0) := cell_of_row wr (w.heap.size + 1) 0 _ 37 (0, 0) hFb
      have g1 : wr.cell? ⟨w.heap.size + 1, 1, none⟩ = some (.int .i64 0) := cell_of_row wr (w.heap.size + 1) 1 _ 37 (0, 0) hFb
      have g2 : wr.cell? ⟨w.heap.size + 1, 2, none⟩ = some (.int .i64 0) := cell_of_row wr (w.heap.size + 1) 2 _ 37 (0, 0) hFb
      have g3 : wr.cell? ⟨w.heap.size + 1, 3, none⟩ = some (.int .i64 0) := cell_of_row wr (w.heap.size + 1) 3 _ 37 (0, 0) hFb
      have g4 : wr.cell? ⟨w.heap.size + 1, 4, none⟩ = some (.int .i64 0) := cell_of_row wr (w.heap.size + 1) 4 _ 37 (0, 0) hFb
      have g5 : wr.cell? ⟨w.heap.size + 1, 5, none⟩ = some (.int .i64 0) := cell_of_row wr (w.heap.size + 1) 5 _ 37 (0, 0) hFb
      have g6 : wr.cell? ⟨w.heap.size + 1, 6, none⟩ = some (.int .i64 0) := cell_of_row wr (w.heap.size + 1) 6 _ 37 (0, 0) hFb
      have gz := fun j => frozen_rowE hFb j
      have hneb : w.heap.size + 1 ≠ b := hne
      have hne' : b ≠ w.heap.size + 1 := Ne.symm hne
      have Q1' := hide q1
      have Q2 := hide q2
      have E := hide e
      have HS' : Hid (¬ S' (w.heap.size + 1)) := hide (fun h => hFS (q2.old _ hFz h))
      clear q1 q2 q3 q4 q5 q6 e hfi hFb
      generalize hg1 : s'.fin = fi at *
      go_wp2
      go_region
      go_wp2
      refine bodyPost_ret (v := .tuple #[vt', .agg #[.int .i64 fi, .int .i64 (s'.reg 0), .int .i64 (s'.reg 1), .int .i64 (s'.reg 2), .int .i64 (s'.reg 3), .int .i64 s'.clock, .int .i64 s'.heard]]) (by simp [results, Tryz.results29, go_sem, g0, g1, g2, g3, g4, g5, g6]) rfl ?_
      have hS' := unhide HS'
      have q1 := unhide Q1'
      have q2 := (unhide HFR).trans (unhide Q2)
      have hle : w.heap.size ≤ w.heap.size + 1 := Nat.le_succ _
      refine ⟨vt', s', S', T', b, by rw [hg1], by rw [unhide HFN, ← unhide E], ?_, ?_⟩
      · rw [unhide HFN, ← unhide E, unhide HPV]
        exact (((((((q1.setOther L _ _ hS').setOther L _ _ hS').setOther L _ _ hS').setOther L _ _ hS').setOther L _ _ hS').setOther L _ _ hS').setOther L _ _ hS').drew L
      · exact (((((((q2.setCell _ _ (.inr hle)).setCell _ _ (.inr hle)).setCell _ _ (.inr hle)).setCell _ _ (.inr hle)).setCell _ _ (.inr hle)).setCell _ _ (.inr hle)).setCell _ _ (.inr hle)).drew
end
end Go.Proofs.YtfmbebofllgmoaaGreatDoor
