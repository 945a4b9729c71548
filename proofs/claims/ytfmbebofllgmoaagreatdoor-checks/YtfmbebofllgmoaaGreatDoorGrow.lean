/-
  PROVED HERE: slices.Grow of nil, for the list of handlers.
-/
import Derived.Test.YtfmbebofllgmoaaGreatDoorApp
namespace Go.Proofs.YtfmbebofllgmoaaGreatDoor
open Go.RowKit

theorem run_append_make (w : World) (n : Nat) (h0 : 0 < n) (hn : n ≤ 1000) (ty : TypeId) : (Builtin.append_ #[25, 3] ty #[.slice none 0 0, .int .i64 n]).run Tryz.prog w =
    .ok (.slice (some ⟨w.heap.size, 0, none⟩) n (grownCap w n 0 31)) (w.drew.alloc (.cells (Builtin.zeroCells #[.slice none 0 0] n ++ Builtin.zeroCells #[.slice none 0 0] (grownCap w n 0 31 - n)) 31)) := by
  obtain ⟨i, hi, hz, hs1, hby⟩ := info31'
  have wl : IntKind.i64.wrap (n : Int) = n := by rw [IntKind.wrap_i64]; omega
  have n1 : ¬ ((n : Int) < 0) := by omega
  have n2 : ¬ (281474976710656 < (n : Int) * 24) := by omega
  have n3 : n ≠ 0 := by omega
  have n4 : ¬ (9223372036854775807 < (n : Int)) := by omega
  have n5 : ¬ (281474976710656 < Builtin.nextslicecap n 0 * 24) := by
    have : Builtin.nextslicecap n 0 = n := by unfold Builtin.nextslicecap; rw [if_pos (by omega)]
    rw [this]; omega
  simp [Builtin.append_, run_underlying Tryz.underlying25, run_underlying Tryz.underlying3, sizeOf, typeInfo, zeroValue, hi, hz, hs1, hby, asInt, asIntOf, wl, n1, n2, n3, n4, n5, Question.forced, newRow, grownCap, Builtin.firstCells]
  rfl

theorem size_zc (n : Nat) : (Builtin.zeroCells #[.slice none 0 0] n).size = n := by simp [size_zeroCells]

theorem wpList_mk {ops : Array Oper} {rest : List Oper} {o : Oper} {a : Act} {Q : Exit → Act → World → Prop} {w : World} (hgd : o.guard = none) (s x : Operand)
    (ho : o.op = .call { callee := .builtin .append, args := #[s, x], argTypes := #[25, 3] }) {n : Nat} (hs : a.eval s = .slice none 0 0) (hx : a.eval x = .int .i64 n) (h0 : 0 < n) (hn : n ≤ 1000)
    (h : ∀ cap w', n ≤ cap → Below w.heap.size w w' → w'.ownsRow w.heap.size 31 1 (.slice (some ⟨w.heap.size, 0, none⟩) 0 cap) 0 [] → wpList Tryz.prog ops Q rest (a.put o.dst (.slice (some ⟨w.heap.size, 0, none⟩) n cap)) w') :
    wpList Tryz.prog ops Q (o :: rest) a w := by
  refine wpList_plain hgd fun K hK => ?_
  have hr := run_append_make w n h0 hn o.type
  have hge := grownCap_ge w n 0 31
  have hle := grownCap_le_maxLen w n 0 31 (by simp only [maxLen]; omega)
  unfold Oper.wp execOp
  simp only [ho, resolve, invoke, builtin, Sem.run_bind, Sem.run_pure, Result.andThen_ok, List.map_toArray, List.map_cons, List.map_nil, hs, hx, hr]
  refine hK _ _ (h _ _ hge ((Below.refl _ _).drew.alloc (by simp) _) ?_)
  exact ⟨by simp, .inr ⟨w.heap.size, _, _, rfl, Nat.le_refl _, heap_alloc_new w.drew _, Nat.zero_le _, hle, by simp only [Array.size_append, size_zc]; omega, by simp⟩⟩

set_option maxHeartbeats 400000 in
theorem grow_any (n : Nat) (w : World) (h0 : 0 < n) (hn : n ≤ 1000) (l : Nat → Nat) (f : Nat → Nat → O3) :
    Calls Tryz.prog 81 #[.slice none 0 0, .int .i64 n] w fun e w' => ∃ v, e = .returned v ∧ OwnH w w' v 0 l f ∧ Below w.heap.size w w' := by
  have k0 : (0 : Int) < (n : Int) := by omega
  have k1 : (n : Int) ≤ 1000 := by omega
  go_enter Tryz.func81, Tryz.ntmps81
  go_wp2_with (at_builtin; refine wpList_mk rfl (.tmp 20) (.tmp 21) rfl rfl rfl h0 hn ?_; intro cap w1 hcap hb ho; have hc0 : (0 : Int) ≤ (cap : Int) := by omega)
  go_ret
  exact ⟨_, rfl, ⟨[], ho, fun _ hi => absurd hi (Nat.not_lt_zero _)⟩, hb⟩
end Go.Proofs.YtfmbebofllgmoaaGreatDoor
