/-
  PROVED HERE: rerunkeep.Orderly returns true at every input, and both arguments read behind the call as they read before: the tied card, at every size within the form's own reach, no condition added.
-/
import Derived.Test.YtfmbebofllgmoaaDoorOrdloop
import Derived.Test.YtfmbebofllgmoaaDoorCards
import Derived.Test.YtfmbebofllgmoaaDoorTie
import Derived.ProofKit
import Derived.OpenShut
import Derived.SizedLaws
import Derived.Deep.Slices
import Derived.Deep.Strs
import Derived.Lib.SmallJoins
import Derived.Deep.DeepHandedRow
import Derived.Lib.LaidTab
namespace Go.Proofs.YtfmbebofllgmoaaDoor
open Go.ChangeShapes Go.WideShapes Go.ChangeAt Go.RowKit Go.Deep

theorem ownKn : ownKnob Tryd.prog.godebug = none := by kernel_rfl
theorem cells3 : Tryd.prog.cellsOf 3 = 1 := by kernel_rfl

section
variable {H : Type} {enc : TypeId × Value → H} {w : World} {spare : Nat → Bool} {held : Bool}
theorem addr_of {a : Addr} {n : Nat} {cs : List Value} (h : w.cells? 0 (a.add 0) n = some cs) (hn : 0 < n) : ∃ b off, a = ⟨b, off, none⟩ := by
  obtain ⟨_, hl, hc⟩ := World.cells?_some h
  obtain ⟨b, off, spot⟩ := a
  have h0 := hc 0 hn
  rw [List.getElem?_eq_getElem (by omega)] at h0
  have hspot : spot = none := by simpa [Addr.add] using World.cell?_spot h0
  subst hspot
  exact ⟨b, off, rfl⟩


/-- A list of integers in memory. -/
theorem down_ints {fuel : Nat} {cs : List Value} {x : DataW H × List MemPlace} (h : DataW.trod enc Tryd.prog w 0 spare held fuel 22 cs = some x) :
    ∃ v l, cs = [v] ∧ IntsIn w v l (fun q => q < w.heap.size) ∧ ∀ j, -9223372036854775808 ≤ l.getD j 0 ∧ l.getD j 0 ≤ 9223372036854775807 := by
  rcases open_slice Tryd.underlying22 h with ⟨rfl, rfl⟩ | ⟨a, len, cap, m, n, D, Pl, rfl, _, hlc, _, hm, rfl, hx⟩
  · exact ⟨_, [], rfl, ⟨none, 0, rfl, .inl rfl⟩, fun j => by simp⟩
  have hml : len ≤ m := by rw [hm]; split <;> omega
  rw [cells3] at hx
  have hall : ∀ i, i < len → ∃ z : Int, w.cells? 0 (a.add (i * 1)) 1 = some [.int .i64 z] ∧ -9223372036854775808 ≤ z ∧ z ≤ 9223372036854775807 := by
    intro i hi
    obtain ⟨cs', h1, h2⟩ := hx i (by omega)
    obtain ⟨z, rfl, _, hw⟩ := DataW.trod_int Tryd.underlying3 h2
    refine ⟨z, h1, ?_⟩
    simp [Lit.wf, IntKind.min, IntKind.max, IntKind.bits, IntKind.signed] at hw
    omega
  obtain ⟨f, hf⟩ := choose_lt (α := Int) hall
  refine ⟨_, (List.range len).map f, rfl, ⟨some a, cap, by simp, ?_⟩, fun j => ?_⟩
  · by_cases h0 : len = 0
    · left; subst h0; rfl
    right
    obtain ⟨b, off, rfl⟩ := addr_of (hf 0 (by omega)).1 (by omega)
    have key : ∀ i, i < len → w.cell? ⟨b, off + i, none⟩ = some (.int .i64 (f i)) := fun i hi => by
      obtain ⟨_, _, hc⟩ := World.cells?_some (hf i hi).1
      rw [Go.WideShapes.add_plain] at hc
      have g0 := hc 0 (by omega)
      rw [Go.WideShapes.add_plain] at g0
      simpa using g0
    refine ⟨b, off, rfl, World.block_lt_of_cell? w _ (key 0 (by omega)), fun i hi => ?_⟩
    have hi' : i < len := by simpa using hi
    rw [key i hi']
    simp [List.getD, hi']
  · by_cases hj : j < len
    · have := (hf j hj).2
      simpa [List.getD, hj] using this
    · simp [List.getD, hj]
end

theorem gTab : Tryd.prog.globalNamed "rerun/check.meanings" = some 0 := by kernel_rfl
theorem gTabType : (Tryd.prog.globals[0]?).map (·.type) = some 87 := by kernel_rfl
theorem cells123 : Tryd.prog.cellsOf 86 = 2 := by kernel_rfl

/-- What the row's list gives: the table's cells hold its numbers. -/
theorem tab_in {W : World} (h : laidMetH Tryd.prog Rows.orderlyRow.laid W) : TabIn W := by
  have h' : laidMet Tryd.prog [("rerun/check.meanings", Rows.laid_rerun_check_meanings)] W := h
  obtain ⟨ps, ⟨g', t', cs, fuel, p, q, hg', ht', hvar, hd, _, _⟩, _⟩ := h'
  obtain rfl := Option.some.inj (gTab.symm.trans hg')
  obtain rfl := Option.some.inj (gTabType.symm.trans ht')
  obtain ⟨xs, m, _, hx, _, hl, hi⟩ := DataW.trod_array Tryd.underlying87 hd
  have hx1 : Rows.laid_rerun_check_meanings = .agg (xs.map (·.1)) := (Prod.mk.inj hx).1
  have hx2 : xs.map (·.1) = _ := (DataW.agg.inj hx1).symm
  have entry : ∀ (i : Nat) (a b : Int), i < 12 → (xs.map (·.1))[i]? = some (.agg [.lit (.int .i64 a), .lit (.int .i64 b)]) → W.cell? ⟨0, i * 2, none⟩ = some (.int .i64 a) ∧ W.cell? ⟨0, i * 2 + 1, none⟩ = some (.int .i64 b) := by
    intro i a b hlt he
    have hi' := hi i hlt
    rw [cells123] at hi'
    obtain ⟨x, hxi⟩ : ∃ x, xs[i]? = some x := ⟨_, List.getElem?_eq_getElem (by omega)⟩
    rw [hxi] at hi'
    rw [List.getElem?_map, hxi] at he
    simp only [Option.map_some, Option.some.injEq] at he
    obtain ⟨y0, y1, n, hy, _, h0, h1⟩ := trod_struct2 Tryd.underlying86 hi'
    rw [hy] at he
    simp only [cells3] at h0 h1
    obtain ⟨a', e0, r0, _⟩ := DataW.trod_int Tryd.underlying3 h0
    obtain ⟨b', e1, r1, _⟩ := DataW.trod_int Tryd.underlying3 h1
    rw [r0, r1] at he
    simp only [DataW.agg.injEq, List.cons.injEq, DataW.lit.injEq, Lit.int.injEq, true_and, and_true] at he
    obtain ⟨rfl, rfl⟩ := he
    rw [World.var?_cell gTab hvar, World.var?_cell gTab hvar]
    have q0 := congrArg (·[0]?) e0
    have q1 := congrArg (·[0]?) e1
    simp [List.getElem?_drop] at q0 q1
    exact ⟨by simpa using q0, by simpa using q1⟩
  rw [hx2] at entry
  intro c h1 h2
  have hc : c = 1 ∨ c = 2 ∨ c = 3 ∨ c = 4 ∨ c = 5 ∨ c = 6 ∨ c = 7 ∨ c = 8 ∨ c = 9 ∨ c = 10 ∨ c = 11 := by omega
  rcases hc with rfl | rfl | rfl | rfl | rfl | rfl | rfl | rfl | rfl | rfl | rfl
  · exact entry 1 1 0 (by omega) rfl
  · exact entry 2 1 1 (by omega) rfl
  · exact entry 3 2 1 (by omega) rfl
  · exact entry 4 2 0 (by omega) rfl
  · exact entry 5 3 0 (by omega) rfl
  · exact entry 6 3 0 (by omega) rfl
  · exact entry 7 1 0 (by omega) rfl
  · exact entry 8 1 4 (by omega) rfl
  · exact entry 9 1 0 (by omega) rfl
  · exact entry 10 1 0 (by omega) rfl
  · exact entry 11 0 0 (by omega) rfl


theorem laidOut : laidOutB Tryd.prog = true := by kernel_rfl
theorem readable22 : Tryd.prog.readableRec 22 = true := by kernel_rfl
theorem types22 : 22 < Tryd.prog.types.size := of_decide_eq_true (by kernel_rfl)

set_option maxRecDepth 100000 in
/-- WHAT THE WALK GIVES, FOR EVERY INPUT AND EVERY WORLD THAT HOLDS THE TABLE. -/
theorem contract (H : Type) (enc : TypeId × Value → H) (W : World) (base : Nat) (args : Array Value) (ds gs : List (DataW H)) (before : List MemPlace)
    (hval : ∀ (j : Nat) t v, Tryd.f3.params[j]? = some t → args[j]? = some v → Value.okWide Tryd.prog W .any base t v)
    (hW : DataW.Whole enc Tryd.prog Tryd.f3.params.toList Rows.orderlySpec.vars false W args.toList ds gs before)
    (hL : laidMetH Tryd.prog Rows.orderlyRow.laid W) :
    Calls Tryd.prog 3 args W fun e W' => ∃ v, e = .returned v ∧ Rows.orderlySpec.post enc Tryd.prog Tryd.f3 false true false false W args v W' := by
  have hW' := hW
  obtain ⟨p, q, hA0, hV, rfl, hfz, hnd⟩ := hW
  have hA : DataW.TrodAll enc Tryd.prog W 0 (fun _ => true) true Tryd.f3.params.toList args.toList ds p := hA0
  rw [Tryd.params3] at hA hval
  obtain ⟨v0, vs0, d0, ds0, p0, q0, hargs, rfl, rfl, h0, r0⟩ := trodAll_cons hA
  obtain ⟨v1, vs1, d1, ds1, p1, q1, rfl, rfl, rfl, h1, r1⟩ := trodAll_cons r0
  obtain ⟨rfl, rfl, rfl⟩ := trodAll_nil r1
  obtain rfl : args = #[v0, v1] := by cases args; simp_all
  obtain ⟨rfl, rfl⟩ := trodVars_none hV
  clear hA0
  simp only [List.append_nil] at hW'
  obtain ⟨a0, len0, cap0, rfl⟩ := okWide_slice Tryd.underlying22 (hval 0 22 v0 rfl rfl)
  obtain ⟨a1, len1, cap1, rfl⟩ := okWide_slice Tryd.underlying22 (hval 1 22 v1 rfl rfl)
  have hlt : ∀ x ∈ p0 ++ p1, x.block < W.heap.size := fun x hx => hW'.lt x hx
  have h0' := h0
  have h1' := h1
  obtain ⟨fuel0, hf0⟩ := h0
  obtain ⟨fuel1, hf1⟩ := h1
  obtain ⟨u0, l0, e0, hi0, hr0⟩ := down_ints hf0
  obtain ⟨u1, l1, e1, hi1, hr1⟩ := down_ints hf1
  have ev0 : u0 = .slice a0 len0 cap0 := by simpa [Value.cells] using e0.symm
  have ev1 : u1 = .slice a1 len1 cap1 := by simpa [Value.cells] using e1.symm
  subst ev0 ev1
  refine (orderly_any W (tab_in hL) _ _ l0 l1 (fun q h => h) hi0 hi1 hr0 hr1).mono fun e W' ⟨he, hf⟩ => ?_
  subst he
  have hb : Below W.heap.size W W' := hf.below (fun k h => h.elim) (Nat.le_refl _)
  exact ⟨_, rfl, [d0, d1], [], p0 ++ p1, [], p0 ++ p1, [], hW', trodAll_cons_mk (shut_bool Tryd.underlying4 _) trodAll_mk0,
    trodAll_cons_mk (Below.trod laidOut readable22 types22 h0' hb (fun x hx => hlt x (List.mem_append_left _ hx))) (trodAll_mk1 (Below.trod laidOut readable22 types22 h1' hb (fun x hx => hlt x (List.mem_append_right _ hx)))), rfl, hb.frame _, fun h => by cases h⟩
/-- A world for the witness: the settled one, the table (block 0) holding what its initialiser lays; both lists are nil. -/
theorem witness (os : Os) (H : Type) (enc : TypeId × Value → H) :
    ∃ (w : World) (tape : Tape) (i : Input), w.os = os ∧ (w.forCall tape i).Shaped Tryd.checked.prog ∧ i.vars = [] ∧ Input.okWide Tryd.checked.prog (w.forCall tape i) .any w.heap.size 3 i ∧
      (OpenSpec.ofChange Rows.orderlySpec).preRow enc Tryd.checked.prog Tryd.f3 Rows.orderlyRow.domain false Rows.orderlyRow.laid (w.forCall tape i).memory i.args ∧ ({ modest := false } : Assume).holds Tryd.checked.prog (lone (Frame.enter Tryd.checked.prog 3 i.args .normal) [] (w.forCall tape i)) := by
  refine witness_row_at (enc := enc) (C := Tryd.checked) false
    { World.holding Tryd.prog os ⟨#[], #[], []⟩ with heap := (World.holding Tryd.prog os ⟨#[], #[], []⟩).heap.modify 0 fun
      | .cells _ t frozen => .cells #[.int .i64 0, .int .i64 0, .int .i64 1, .int .i64 0, .int .i64 1, .int .i64 1, .int .i64 2, .int .i64 1, .int .i64 2, .int .i64 0, .int .i64 3, .int .i64 0, .int .i64 3, .int .i64 0, .int .i64 1, .int .i64 0, .int .i64 1, .int .i64 4, .int .i64 1, .int .i64 0, .int .i64 1, .int .i64 0, .int .i64 0, .int .i64 0] t frozen
      | o => o } #[.slice none 0 0, .slice none 0 0] rfl (by kernel_rfl) (by kernel_rfl) (by kernel_rfl)
      (OpenSpec.preRow_of_cond (x := ([.nil, .nil], [], [])) 8 (by kernel_rfl) (by kernel_rfl) (fun k hk => by cases hk) (by kernel_rfl) (laidMet_of_run' 8 (by kernel_rfl) (by kernel_rfl)))

set_option maxRecDepth 100000 in
theorem lifted (os : Os) (started : os.Started) (H : Type) (enc : TypeId × Value → H) (F : Stop.Interp) :
    ReturnsInHanded {} Tryd.checked os 3 .any ((OpenSpec.ofChange Rows.orderlySpec).preRow enc Tryd.prog Tryd.f3 Rows.orderlyRow.domain false Rows.orderlyRow.laid) (((OpenSpec.ofChange Rows.orderlySpec).at F).post enc Tryd.prog Tryd.f3 false true false false) := by
  refine returnsInHanded_of_row (C := Tryd.checked) (s := OpenSpec.ofChange Rows.orderlySpec) ownKn started (by kernel_rfl) Tryd.func3 (witness os H enc) ?_
  intro W base args ds gs before hval hW _ _ hsz hL _ _
  exact contract H enc W base args ds gs before hval hW hL

theorem said : Rows.OrderlySaid :=
  OpenClaim.holds_of_cond 3 Tryd.f3 rfl rfl rfl rfl rfl rfl rfl ⟨rfl, rfl, rfl, rfl, rfl⟩ rfl rfl rfl rfl rfl (by kernel_rfl) Tryd.func3 (by kernel_rfl)
    (of_decide_eq_true (by kernel_rfl)) (by unfold Func.isWrapper; first | (rw [if_pos (by decide +kernel)]; kernel_rfl) | (rw [if_neg (by decide +kernel)]; exact ⟨rfl, rfl⟩))
    (fun os started H enc _ F => by rw [OpenClaim.pre_eq_preRow]; exact lifted os started H enc F)

theorem plain (f : FuncId) (fn : Func) (hf : Tryd.pinned.checked.prog.funcNamed "rerun/rerunkeep.Orderly" = some f) (hfn : Tryd.pinned.checked.prog.funcs[f]? = some fn) :
    false = Tryd.pinned.checked.prog.looks [] ∧ ∀ (j : Nat) t, fn.params[j]? = some t → Tryd.pinned.checked.prog.wantsStandIn t = false := by
  obtain rfl : f = 3 := Option.some.inj ((show Tryd.prog.funcNamed "rerun/rerunkeep.Orderly" = some 3 by kernel_rfl).symm.trans hf) |>.symm
  obtain rfl : fn = Tryd.f3 := (Option.some.inj (Tryd.func3.symm.trans hfn)).symm
  refine ⟨by kernel_rfl, fun j t ht => ?_⟩
  rw [Tryd.params3] at ht
  obtain rfl : t = 22 := by simpa using Array.mem_of_getElem? ht
  exact (show Tryd.prog.wantsStandIn 22 = false by kernel_rfl)

/-- THE CARD. -/
theorem orderly_holds : Rows.OrderlyCardSaid :=
  Claim7.holds_tied_plain_at .later [] _ _ _ _ said (fun _ h => by cases h) (by kernel_rfl) (fun _ h => by cases h) orderly_row_tie rfl ⟨rfl, rfl⟩ (by kernel_rfl) rfl plain (by kernel_rfl)
#print axioms orderly_holds
end Go.Proofs.YtfmbebofllgmoaaDoor
