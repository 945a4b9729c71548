/-
  PROVED HERE: the document's hear over a list of inputs, where the next one is heard. the document's hear over a list of inputs, where the next one is heard. the document's list of inputs is a source that keeps its word: it answers as the replayer's does.
-/
import Derived.Test.YtfmbebofllgmoaaGreatDoorProg
import Derived.WalkKit
import Derived.WalkSpells
import Derived.WalkLawsBesides
import Derived.Deep.QuietTactic
import Derived.BigQuiet
import Derived.Deep.RegionHeld3
import Derived.Deep.AppendLies
import Derived.Laws.EntriesVeiled
import Derived.Deep.DrawnRows
import Derived.BigRegion
import Derived.Deep.LoopGhost
import Derived.Deep.MidRow
import Derived.Shelf.SlSortCmp.SmallK
import Derived.Shelf.SlicesG.Cmp
import Derived.Shelf.Small.Bits
import Derived.Deep.RegionLaw
import Derived.Lib.SliceRun
import Derived.Laws.StructEq
import Derived.Laws.BytesString
import Derived.ArgAppend
import Derived.Deep.DeepCutAuto
import Derived.Conc.LoneCalls
import Derived.Calls
import Derived.Tactics
import Derived.KernelRfl
import Derived.Laws.Rows
import Derived.Lib.SlBytesConst
import Derived.Laws.BitsAllLaws
import Derived.RangeFuncOwn
import Derived.Laws.IdiomStrings
import Derived.RangeFuncNested
import Derived.RangeFuncBound
import Derived.RangeFuncCalls
import Derived.RangeFuncLeaves
import Derived.Shelf.RegionOpen
import Derived.OwnWalkIn
import Derived.TacticsInMore
import Derived.Maps.OwnIn
import Derived.Maps.AppendAt
import Derived.LoopNIn
import Derived.LoopIn
import Derived.ChangeKeysEq
import Derived.Deep.DeepAppendRoom
import Derived.Test.YtfmbebofllgmoaaGreatDoorSallbh
namespace Go.Proofs.YtfmbebofllgmoaaGreatDoor
open Go.RowKit
attribute [local go_sem ↓] Go.wp_at_zero Go.wp_at_succ

section
variable {B : Nat} {S T : Nat → Prop} {w : World} {b : Nat} {pv : Nat → Value} {vt va : Value} {s : PS} {A : List AT} {tn sq : Int} {y : VL}
set_option maxHeartbeats 4000000 in
/-- What was heard is laid behind the rest. -/
theorem hear_finP {W4 w5 : World} {ob : Obj} {v8 v9 fv vh : Value} {H : List (Inp × Value)} {i : Inp} {ps : List (Inp × Value)} {y' : VL} (h : LQ (SQP B) B S w b pv vt va T s A tn sq y) (hin : InpsC w v8 ps (fun q => q < B)) (hps : ps.map (·.1) = y'.1) (hleft : y'.1.length + 1 = y.1.length)
    (hrow : w.ownsRow B 49 4 vh H.length (flatP H)) (hown : ∀ q, own vh q → T q) (hcnt : H.length + y.1.length ≤ 20000000) (hnh : (H.length : Int) = s.heard) (hfl : IntsIn w fv (zs i.2.2.2) (fun q => q < B))
    (c4 : LAt W4 b (setC (limg pv vt va s tn) 8 v8)) (f04 : Fr (fun q => q = b) w W4 (fun q => q = b)) (hz4 : w.heap.size + 2 ≤ W4.heap.size) (o5 : w5.ownsRow B 49 4 v9 (H.length + 1) (flatP H ++ [.int .i64 (i.1 : Nat), .int .i64 (i.2.1 : Nat), .int .i64 (i.2.2.1 : Nat), fv])) (hv9 : ∃ a c, v9 = .slice a (H.length + 1) c) (f5 : Fr (own vh) (W4.alloc ob).drew w5 (own v9)) (u0 u1 u2 u3 : Value) :
    LPostS (SQP B) B S w b pv vt va A tn sq { s with heard := wrap64 (s.heard + 1) } y' (((((w5.setCell ⟨b, 9, none⟩ v9).setCell ⟨w.heap.size, 0, none⟩ u0).setCell ⟨w.heap.size, 1, none⟩ u1).setCell ⟨w.heap.size, 2, none⟩ u2).setCell ⟨w.heap.size, 3, none⟩ u3) ∧ IntsIn (((((w5.setCell ⟨b, 9, none⟩ v9).setCell ⟨w.heap.size, 0, none⟩ u0).setCell ⟨w.heap.size, 1, none⟩ u1).setCell ⟨w.heap.size, 2, none⟩ u2).setCell ⟨w.heap.size, 3, none⟩ u3) fv (zs i.2.2.2) (fun q => q < (((((w5.setCell ⟨b, 9, none⟩ v9).setCell ⟨w.heap.size, 0, none⟩ u0).setCell ⟨w.heap.size, 1, none⟩ u1).setCell ⟨w.heap.size, 2, none⟩ u2).setCell ⟨w.heap.size, 3, none⟩ u3).heap.size) := by
  have hb := h.blt
  have hBw := h.below
  have hbB := (h.bound b h.inB).1
  have hbT : ¬ T b := fun e => (h.inT b e).2 rfl
  have hTl : ∀ q, T q → B ≤ q ∧ q < w.heap.size := fun q hq => h.bound q (h.inT q hq).1
  generalize hW : (((((w5.setCell ⟨b, 9, none⟩ v9).setCell ⟨w.heap.size, 0, none⟩ u0).setCell ⟨w.heap.size, 1, none⟩ u1).setCell ⟨w.heap.size, 2, none⟩ u2).setCell ⟨w.heap.size, 3, none⟩ u3) = W
  have hWz : W.heap.size = w5.heap.size := by subst hW; simp [World.setCell]
  have hz4a : (W4.alloc ob).drew.heap.size = W4.heap.size + 1 := by show (W4.alloc ob).heap.size = _; simp
  have hz5 : W4.heap.size + 1 ≤ w5.heap.size := by have h1 := f5.size; omega
  have keep5 : ∀ q, q ≠ b → q ≠ w.heap.size → W.heap[q]? = w5.heap[q]? := fun q h1 h2 => by
    subst hW
    exact (Below.heap_setCell _ _ _ _ h2).trans ((Below.heap_setCell _ _ _ _ h2).trans ((Below.heap_setCell _ _ _ _ h2).trans ((Below.heap_setCell _ _ _ _ h2).trans (Below.heap_setCell _ _ _ _ h1))))
  have keep45 : ∀ q, q < W4.heap.size → ¬ own vh q → w5.heap[q]? = W4.heap[q]? := fun q h1 h2 => (f5.same q (by show q < (W4.alloc ob).heap.size; simp; omega) h2).trans (Below.heap_alloc W4 ob q h1)
  have keepw : ∀ q, q < w.heap.size → q ≠ b → ¬ own vh q → W.heap[q]? = w.heap[q]? := fun q h1 h2 h3 => (keep5 q h2 (by omega)).trans ((keep45 q (by omega) h3).trans (f04.same q h1 h2))
  have hvb : ¬ own vh b := fun e => hbT (hown b e)
  have hvl : ∀ q, own vh q → q < w.heap.size := fun q e => (World.ownsRow.lt hrow q e).2
  have hv9o : ∀ q, own v9 q → own vh q ∨ W4.heap.size ≤ q := fun q hq => by
    by_cases hl : q < W4.heap.size
    · exact .inl (f5.old q (by show q < (W4.alloc ob).heap.size; simp; omega) hq)
    · exact .inr (by omega)
  have hcells : LAt W b (limg (setC (setC pv 8 v8) 9 v9) vt va { s with heard := wrap64 (s.heard + 1) } tn) := by
    have e5 : LAt w5 b (setC (limg pv vt va s tn) 8 v8) := c4.block (keep45 b (by omega) hvb)
    have e6 := e5.set 9 v9 (by omega)
    have e7 : LAt W b (setC (setC (limg pv vt va s tn) 8 v8) 9 v9) := by
      subst hW
      exact (((e6.other (show ¬ b = w.heap.size by omega)).other (show ¬ b = w.heap.size by omega)).other (show ¬ b = w.heap.size by omega)).other (show ¬ b = w.heap.size by omega)
    refine e7.congr (fun k _ => ?_)
    rw [limg_setpv (by omega)]
    unfold setC
    by_cases e9 : k = 9
    · rw [if_pos e9, if_pos e9]
    · rw [if_neg e9, if_neg e9]
      have := limg_setpv (pv := pv) (vt := vt) (va := va) (s := { s with heard := wrap64 (s.heard + 1) }) (tn := tn) (j := 8) (v := v8) (by omega) k
      unfold setC at this
      rw [this]
      rfl
  have hrow' : W.ownsRow B 49 4 v9 (H ++ [(i, fv)]).length (flatP (H ++ [(i, fv)])) := by
    rw [List.length_append, flatP_append]
    refine ownsRow_of_block o5 (fun q hq => keep5 q (fun e => ?_) (fun e => ?_))
    · rcases hv9o q hq with h1 | h1
      · exact hvb (e ▸ h1)
      · omega
    · rcases hv9o q hq with h1 | h1
      · have := hvl q h1; omega
      · omega
  have hT' : ∀ q, (own v9 q ∨ (T q ∧ ¬ own vh q)) → q < W.heap.size ∧ q ≠ b := fun q hq => by
    rw [hWz]
    rcases hq with h1 | ⟨h1, _⟩
    · refine ⟨(World.ownsRow.lt o5 q h1).2, fun e => ?_⟩
      rcases hv9o q h1 with h2 | h2
      · exact hvb (e ▸ h2)
      · omega
    · have := hTl q h1
      exact ⟨by omega, fun e => hbT (e ▸ h1)⟩
  have hf : Fr (fun q => q = b ∨ T q) w W (fun q => q = b ∨ (own v9 q ∨ (T q ∧ ¬ own vh q))) := by
    have g1 : W.os = w.os ∧ W.tape = w.tape ∧ W.output = w.output := by
      have g0 := (((((Fr.refl (fun _ => True) w5).setCell ⟨b, 9, none⟩ v9 (.inl trivial)).setCell ⟨w.heap.size, 0, none⟩ u0 (.inl trivial)).setCell ⟨w.heap.size, 1, none⟩ u1 (.inl trivial)).setCell ⟨w.heap.size, 2, none⟩ u2 (.inl trivial)).setCell ⟨w.heap.size, 3, none⟩ u3 (.inl trivial)
      rw [hW] at g0
      exact ⟨g0.os.trans (f5.os.trans f04.os), g0.tape.trans (f5.tape.trans f04.tape), g0.output.trans (f5.output.trans f04.output)⟩
    refine ⟨g1.1, g1.2.1, g1.2.2, by rw [hWz]; omega, fun k hk hn => keepw k hk (fun e => hn (.inl e)) (fun e => hn (.inr (hown k e))), fun k hk hq => ?_⟩
    rcases hq with h1 | h1 | ⟨h1, _⟩
    · exact .inl h1
    · rcases hv9o k h1 with h2 | h2
      · exact .inr (hown k h2)
      · omega
    · exact .inr h1
  have hbelow : ∀ q, q < B → W.heap[q]? = w.heap[q]? := fun q hq => keepw q (by omega) (by omega) (fun e => by have := (World.ownsRow.lt hrow q e).1; omega)
  have hpv : ∀ k, k ≠ 9 → setC (setC pv 8 v8) 9 v9 k = setC pv 8 v8 k := fun k hk => by show (if k = 9 then v9 else setC pv 8 v8 k) = _; rw [if_neg hk]
  have h9 : setC (setC pv 8 v8) 9 v9 9 = v9 := by show (if 9 = 9 then v9 else setC pv 8 v8 9) = v9; rw [if_pos rfl]
  have h8 : setC (setC pv 8 v8) 9 v9 8 = v8 := by rw [hpv 8 (by omega)]; show (if 8 = 8 then v8 else pv 8) = v8; rw [if_pos rfl]
  have hsrc : SQP B (setC (setC pv 8 v8) 9 v9) (fun q => own v9 q ∨ (T q ∧ ¬ own vh q)) W y' := by
    refine ⟨?_, ⟨ps, by rw [h8]; exact hin.keep hbelow, hps⟩, H ++ [(i, fv)], ?_, ?_, ?_⟩
    · rw [hpv 7 (by omega)]
      show (if 7 = 8 then v8 else pv 7) = _
      rw [if_neg (by omega)]
      exact h.src.rep
    · rw [h9]; exact hrow'
    · rw [h9]; exact fun q hq => .inl hq
    · rw [List.length_append]; simp only [List.length_cons, List.length_nil]; omega
  obtain ⟨a9, c9, e9⟩ := hv9
  have hreb := h.rebuild (s' := { s with heard := wrap64 (s.heard + 1) }) hf hcells hsrc hT' rfl (h.rel.of rfl rfl) ⟨a9, H.length + 1, c9, by rw [h9]; exact e9, by show _ = wrap64 (s.heard + 1); rw [← hnh]; unfold wrap64; omega⟩
  refine ⟨⟨_, _, _, hreb.1, fun k hk => ?_, hreb.2⟩, ?_⟩
  · rw [hpv k (by omega)]
    show (if k = 8 then v8 else pv k) = _
    rw [if_neg (by omega)]
  · exact intsIn_kept hfl hbelow (fun q hq => by rw [hWz]; omega)
end
end Go.Proofs.YtfmbebofllgmoaaGreatDoor
namespace Go.Proofs.YtfmbebofllgmoaaGreatDoor
open Go.RowKit
attribute [local go_sem ↓] Go.wp_at_zero Go.wp_at_succ

section
variable {B : Nat} {S T : Nat → Prop} {w : World} {b : Nat} {pv : Nat → Value} {vt va : Value} {s : PS} {A : List AT} {tn sq : Int} {y : VL}
set_option maxHeartbeats 1000000 in
set_option maxRecDepth 20000 in
/-- The next input is heard. -/
theorem hearP_ok (h : LQ (SQP B) B S w b pv vt va T s A tn sq y) (i : Inp) {r : List Inp} (he : y.1 = i :: r) (h5 : i.1 ≠ 5) :
    Calls Tryz.prog 141 #[.pointer (some ⟨b, 0, none⟩), .int .i64 (i.1 : Nat), .int .i64 (i.2.1 : Nat)] w fun e w' => ∃ fa fc, e = .returned (.agg #[.int .i64 (i.1 : Nat), .int .i64 (i.2.1 : Nat), .int .i64 (i.2.2.1 : Nat), .slice fa (zs i.2.2.2).length fc]) ∧ LPostS (SQP B) B S w b pv vt va A tn sq { s with heard := wrap64 (s.heard + 1) } y.tail w' ∧ IntsIn w' (.slice fa (zs i.2.2.2).length fc) (zs i.2.2.2) (fun q => q < w'.heap.size) := by
  have hb := h.blt
  have hB6 : B ≤ w.heap.size := h.below
  obtain ⟨hB, hbB⟩ := h.bound b h.inB
  have k7 := (h.cell 7 (by omega)).trans (by rw [limg_pv _ _ _ _ _ _ (by omega), h.src.rep])
  have k8 := (h.cell 8 (by omega)).trans (by rw [limg_pv _ _ _ _ _ _ (by omega)])
  have z8 := h.free 8 (by omega)
  obtain ⟨ps, hin, hps⟩ := h.src.ins
  obtain ⟨⟨j, fv⟩, rs, rfl⟩ : ∃ y rs, ps = y :: rs := by
    cases ps with
    | nil => rw [he] at hps; cases hps
    | cons y rs => exact ⟨y, rs, rfl⟩
  rw [he] at hps
  obtain rfl : j = i := (List.cons.inj hps).1
  have hrs : rs.map (·.1) = y.tail.1 := by show _ = y.1.tail; rw [he]; exact (List.cons.inj hps).2
  have hleft : y.tail.1.length + 1 = y.1.length := by show y.1.tail.length + 1 = _; rw [he]; simp
  obtain ⟨q, off, c, hv, hc, hq, ⟨g0, g1, g2, g3⟩, hfi, hin8⟩ := hin.cons
  rw [hv] at k8
  obtain ⟨fa, fc, hfe, _⟩ := id hfi
  dsimp only at g0 g1 g2 g3 hfe hfi
  rw [hfe] at g3 hfi
  obtain ⟨ik, io, in_, ifl⟩ := j
  dsimp only at g0 g1 g2 g3 hfi h5 ⊢
  have h5i : ¬ ((ik : Nat) : Int) = 5 := by omega
  have hqw : q < w.heap.size := by omega
  have hqb : ¬ q = b := by omega
  obtain ⟨H, hrow, hown, hcnt⟩ := h.src.hd
  obtain ⟨ha, hn, hcp, hp9, hnh⟩ := h.hc
  have hHn : H.length = hn := by
    obtain ⟨a1, c1, e1⟩ := row_shape hrow
    rw [hp9] at e1
    injection e1 with _ e1
    exact e1.symm
  subst hHn
  rw [hp9] at hrow hown
  have k9 := (h.cell 9 (by omega)).trans (by rw [limg_pv _ _ _ _ _ _ (by omega), hp9])
  have z9 := h.free 9 (by omega)
  obtain ⟨m, hm⟩ : ∃ m, m = rs.length := ⟨_, rfl⟩
  rw [← hm] at k8 hin8 hc
  have e9 := limg_pv pv vt va s tn 9 (by omega)
  rw [hp9] at e9
  have HH := hide h
  have HIN := hide hin8
  have HRS := hide hrs
  have HLEFT := hide hleft
  have HFI := hide hfi
  have HOWN := hide hown
  have HROW := hide hrow
  have HCNT := hide hcnt
  have HNH := hide hnh
  have E9 := hide e9
  have hci : (m : Int) + 1 ≤ (c : Int) := by omega
  clear h hin hin8 hrs hleft hfi hown hrow hcnt hnh he hps hv hp9 hfe h5 e9 hm
  have gen : ∀ v8, InpsC w v8 rs (fun q => q < B) → Hid (
      (((w.setCell ⟨b, 8, none⟩ v8).alloc (.cells #[.int .i64 0, .int .i64 0, .int .i64 0, .slice none 0 0] 49)).alloc (.cells #[.int .i64 (ik : Nat), .int .i64 (io : Nat), .int .i64 (in_ : Nat), .slice fa (zs ifl).length fc] 49)).heap[w.heap.size + 1]? = some (.cells #[.int .i64 (ik : Nat), .int .i64 (io : Nat), .int .i64 (in_ : Nat), .slice fa (zs ifl).length fc] 49) ∧ (((w.setCell ⟨b, 8, none⟩ v8).alloc (.cells #[.int .i64 0, .int .i64 0, .int .i64 0, .slice none 0 0] 49)).alloc (.cells #[.int .i64 (ik : Nat), .int .i64 (io : Nat), .int .i64 (in_ : Nat), .slice fa (zs ifl).length fc] 49)).heap[w.heap.size]? = some (.cells #[.int .i64 0, .int .i64 0, .int .i64 0, .slice none 0 0] 49) ∧ LAt (((w.setCell ⟨b, 8, none⟩ v8).alloc (.cells #[.int .i64 0, .int .i64 0, .int .i64 0, .slice none 0 0] 49)).alloc (.cells #[.int .i64 (ik : Nat), .int .i64 (io : Nat), .int .i64 (in_ : Nat), .slice fa (zs ifl).length fc] 49)) b (setC (limg pv vt va s tn) 8 v8) ∧ Fr (fun q => q = b) w (((w.setCell ⟨b, 8, none⟩ v8).alloc (.cells #[.int .i64 0, .int .i64 0, .int .i64 0, .slice none 0 0] 49)).alloc (.cells #[.int .i64 (ik : Nat), .int .i64 (io : Nat), .int .i64 (in_ : Nat), .slice fa (zs ifl).length fc] 49)) (fun q => q = b) ∧
      w.heap.size + 2 ≤ (((w.setCell ⟨b, 8, none⟩ v8).alloc (.cells #[.int .i64 0, .int .i64 0, .int .i64 0, .slice none 0 0] 49)).alloc (.cells #[.int .i64 (ik : Nat), .int .i64 (io : Nat), .int .i64 (in_ : Nat), .slice fa (zs ifl).length fc] 49)).heap.size ∧ (((w.setCell ⟨b, 8, none⟩ v8).alloc (.cells #[.int .i64 0, .int .i64 0, .int .i64 0, .slice none 0 0] 49)).alloc (.cells #[.int .i64 (ik : Nat), .int .i64 (io : Nat), .int .i64 (in_ : Nat), .slice fa (zs ifl).length fc] 49)).ownsRow B 49 4 (.slice ha H.length hcp) H.length (flatP H) ∧ (((w.setCell ⟨b, 8, none⟩ v8).alloc (.cells #[.int .i64 0, .int .i64 0, .int .i64 0, .slice none 0 0] 49)).alloc (.cells #[.int .i64 (ik : Nat), .int .i64 (io : Nat), .int .i64 (in_ : Nat), .slice fa (zs ifl).length fc] 49)).cell? ⟨b, 9, none⟩ = some (.slice ha H.length hcp) ∧ (((w.setCell ⟨b, 8, none⟩ v8).alloc (.cells #[.int .i64 0, .int .i64 0, .int .i64 0, .slice none 0 0] 49)).alloc (.cells #[.int .i64 (ik : Nat), .int .i64 (io : Nat), .int .i64 (in_ : Nat), .slice fa (zs ifl).length fc] 49)).frozen? ⟨b, 9, none⟩ = false) := by
    intro v8 _
    have zW : (w.setCell ⟨b, 8, none⟩ v8).heap.size = w.heap.size := by simp [World.setCell]
    have zW1 : ((w.setCell ⟨b, 8, none⟩ v8).alloc (.cells #[.int .i64 0, .int .i64 0, .int .i64 0, .slice none 0 0] 49)).heap.size = w.heap.size + 1 := by simp [World.setCell]
    have c4 : LAt (((w.setCell ⟨b, 8, none⟩ v8).alloc (.cells #[.int .i64 0, .int .i64 0, .int .i64 0, .slice none 0 0] 49)).alloc (.cells #[.int .i64 (ik : Nat), .int .i64 (io : Nat), .int .i64 (in_ : Nat), .slice fa (zs ifl).length fc] 49)) b (setC (limg pv vt va s tn) 8 v8) := (((unhide HH).cells.set 8 v8 (by omega))).block ((Below.heap_alloc _ _ _ (by rw [zW1]; omega)).trans (Below.heap_alloc _ _ _ (by rw [zW]; omega)))
    have f4 : Fr (fun q => q = b) w (((w.setCell ⟨b, 8, none⟩ v8).alloc (.cells #[.int .i64 0, .int .i64 0, .int .i64 0, .slice none 0 0] 49)).alloc (.cells #[.int .i64 (ik : Nat), .int .i64 (io : Nat), .int .i64 (in_ : Nat), .slice fa (zs ifl).length fc] 49)) (fun q => q = b) := (((Fr.refl (fun q => q = b) w).setCell ⟨b, 8, none⟩ v8 (.inl rfl)).alloc _).alloc _
    refine ⟨?_, ?_, c4, f4, by simp [World.setCell], ownsRow_of_block (unhide HROW) (fun q hq => f4.same q (World.ownsRow.lt (unhide HROW) q hq).2 (fun e => ((unhide HH).inT q (unhide HOWN q hq)).2 e)), ?_, (c4 9 (by omega)).2⟩
    · have h := heap_alloc_new ((w.setCell ⟨b, 8, none⟩ v8).alloc (.cells #[.int .i64 0, .int .i64 0, .int .i64 0, .slice none 0 0] 49)) (.cells #[.int .i64 (ik : Nat), .int .i64 (io : Nat), .int .i64 (in_ : Nat), .slice fa (zs ifl).length fc] 49)
      rwa [zW1] at h
    · refine (Below.heap_alloc _ _ _ (by rw [zW1]; omega)).trans ?_
      have h := heap_alloc_new (w.setCell ⟨b, 8, none⟩ v8) (.cells #[.int .i64 0, .int .i64 0, .int .i64 0, .slice none 0 0] 49)
      rwa [zW] at h
    · rw [(c4 9 (by omega)).1]
      unfold setC
      rw [if_neg (by omega), unhide E9]
  have hbz : ¬ w.heap.size = b := by omega
  have hbz1 : ¬ w.heap.size + 1 = b := by omega
  by_cases hc1 : c = 1
  · subst hc1
    obtain rfl : m = 0 := by omega
    have hi8 : InpsC w (.slice (some ⟨q, off, none⟩) 0 0) rs (fun q => q < B) := by have := unhide HIN; simpa using this
    have G4 := gen _ hi8
    have HI8 := hide hi8
    clear hi8
    clear HIN gen hci hc
    go_enter Tryz.func141, Tryz.ntmps141
    go_wp2
    generalize (Value.slice (some { block := q, off := off }) 0 0) = v8 at HI8 G4 ⊢
    generalize hW4 : ((w.setCell ⟨b, 8, none⟩ v8).alloc (.cells #[.int .i64 0, .int .i64 0, .int .i64 0, .slice none 0 0] 49)).alloc (.cells #[.int .i64 (ik : Nat), .int .i64 (io : Nat), .int .i64 (in_ : Nat), .slice fa (zs ifl).length fc] 49) = W4 at G4 ⊢
    clear hW4
    obtain ⟨y7, y6, cells4, f04, hz4, hrow4, c9, z9'⟩ := unhide G4
    have l6 := (Array.getElem?_eq_some_iff.1 y6).1
    have l7 := (Array.getElem?_eq_some_iff.1 y7).1
    have Y7 := hide y7
    have Y6 := hide y6
    have R4 := hide hrow4
    have C4 := hide cells4
    have F04 := hide f04
    have hBW4 : B ≤ W4.heap.size := by omega
    have hb4 : b < W4.heap.size := by omega
    clear hrow4 cells4 f04 y6 y7 G4 k7 k8 k9 z8 z9 g0 g1 g2 g3 E9
    have hq7 : ∀ o, (W4.alloc o).drew.heap[w.heap.size + 1]? = some (.cells #[.int .i64 (ik : Nat), .int .i64 (io : Nat), .int .i64 (in_ : Nat), .slice fa (zs ifl).length fc] 49) := fun o => (Below.heap_alloc W4 o _ l7).trans (unhide Y7)
    have cq9 : ∀ o, (W4.alloc o).drew.cell? ⟨b, 9, none⟩ = some (.slice ha H.length hcp) := fun o => (World.cell?_of_block (w := W4) (a := ⟨b, 9, none⟩) (Below.heap_alloc W4 o _ hb4)).trans c9
    refine wp_region_held_drew (S := fun w' => w'.heap[w.heap.size + 1]? = some (.cells #[.int .i64 (ik : Nat), .int .i64 (io : Nat), .int .i64 (in_ : Nat), .slice fa (zs ifl).length fc] 49)) (by kernel_rfl) ?_ (fun hHeld => ?_)
    · exact unhide Y7
    refine wpAnyH_take (i := 0) (oi := { dst := some 87, op := Op.move (Operand.tmp 0), type := 177, pos := "run.go:167", after := #[], guard := none }) (v := ?_) rfl (by kernel_rfl) (by kernel_rfl) (by kernel_rfl) (fun _ _ _ h => h) (Or.inl ⟨by rfl, ?_⟩) (by assumption) ?_
    rotate_left
    · intro w hSw; have c7 := fun j => cell_of_row w _ j _ 49 (0, 0) hSw; go_simp; try with_reducible rfl
    simp only [Act.put, List.setIfInBounds_toArray, List.set_cons_zero, List.set_cons_succ]
    refine wpAnyH_take (i := 1) (oi := { dst := some 88, op := Op.move (Operand.tmp 0), type := 177, pos := "run.go:167", after := #[], guard := none }) (v := ?_) rfl (by kernel_rfl) (by kernel_rfl) (by kernel_rfl) (fun _ _ _ h => h) (Or.inl ⟨by rfl, ?_⟩) (by assumption) ?_
    rotate_left
    · intro w hSw; have c7 := fun j => cell_of_row w _ j _ 49 (0, 0) hSw; go_simp; try with_reducible rfl
    simp only [Act.put, List.setIfInBounds_toArray, List.set_cons_zero, List.set_cons_succ]
    refine wpAnyH_take (i := 2) (oi := { dst := some 89, op := Op.nilCheck (Operand.tmp 88), type := 0, pos := "run.go:167", after := #[{ on := 1, ground := Ground.data }], guard := none }) (v := ?_) rfl (by kernel_rfl) (by kernel_rfl) (by kernel_rfl) (fun _ _ _ h => h) (Or.inl ⟨by rfl, ?_⟩) (by assumption) ?_
    rotate_left
    · intro w hSw; have c7 := fun j => cell_of_row w _ j _ 49 (0, 0) hSw; go_simp; try with_reducible rfl
    simp only [Act.put, List.setIfInBounds_toArray, List.set_cons_zero, List.set_cons_succ]
    refine wpAnyH_take (i := 3) (oi := { dst := some 90, op := Op.fieldAddr 180 (Operand.tmp 89) 4, type := 0, pos := "run.go:167", after := #[{ on := 2, ground := Ground.data }], guard := none }) (v := ?_) rfl (by kernel_rfl) (by kernel_rfl) (by kernel_rfl) (fun _ _ _ h => h) (Or.inl ⟨by rfl, ?_⟩) (by assumption) ?_
    rotate_left
    · intro w hSw; have c7 := fun j => cell_of_row w _ j _ 49 (0, 0) hSw; go_simp; try with_reducible rfl
    simp only [Act.put, List.setIfInBounds_toArray, List.set_cons_zero, List.set_cons_succ]
    refine wpAnyH_take (i := 5) (oi := { dst := some 92, op := Op.load 49 (Operand.tmp 7), type := 49, pos := "run.go:167", after := #[], guard := none }) (v := ?_) rfl (by kernel_rfl) (by kernel_rfl) (by kernel_rfl) (fun _ _ _ h => h) (Or.inl ⟨by rfl, ?_⟩) (by assumption) ?_
    rotate_left
    · intro w hSw; have c7 := fun j => cell_of_row w _ j _ 49 (0, 0) hSw; go_simp; try with_reducible rfl
    simp only [Act.put, List.setIfInBounds_toArray, List.set_cons_zero, List.set_cons_succ]
    refine wpAnyH_ready (rs := [4, 6]) (by kernel_rfl) (by simp) ?_
    refine AllReadyH.cons (o := { dst := some 91, op := Op.load 44 (Operand.tmp 90), type := 44, pos := "run.go:167", after := #[{ on := 3, ground := Ground.data }], guard := none }) rfl (fun K' hK' => ?_) (AllReadyH.cons (o := { dst := some 93, op := Op.buildSlice 44 1 #[(0, Operand.tmp 92)], type := 44, pos := "run.go:167", after := #[{ on := 5, ground := Ground.data }], guard := none }) rfl (fun K' hK' => ?_) AllReadyH.nil)
    · go_simp
      refine hK'.out _ _ ?_ (fun hHeld => ?_)
      · exact unhide Y7
      clear hK' K'
      try simp only [Act.put, List.setIfInBounds_toArray, List.set_cons_zero, List.set_cons_succ]
      refine wpAnyH_ready (rs := [6]) (by kernel_rfl) (by simp) ?_
      refine AllReadyH.cons (o := { dst := some 93, op := Op.buildSlice 44 1 #[(0, Operand.tmp 92)], type := 44, pos := "run.go:167", after := #[{ on := 5, ground := Ground.data }], guard := none }) rfl (fun K' hK' => ?_) AllReadyH.nil
      go_simp
      refine hK'.out _ _ ?_ (fun hHeld => ?_)
      · exact hq7 _
      clear hK' K'
      try simp only [Act.put, List.setIfInBounds_toArray, List.set_cons_zero, List.set_cons_succ]
      refine wpAnyH_ready (rs := [7]) (by kernel_rfl) (by simp) ?_
      refine AllReadyH.cons (o := { dst := some 94, op := Op.call { callee := Callee.builtin Builtin.append, args := #[Operand.tmp 91, Operand.tmp 93], argTypes := #[44, 44] }, type := 44, pos := "run.go:167", after := #[{ on := 4, ground := Ground.data }, { on := 6, ground := Ground.data }], guard := none }) rfl (fun K' hK' => ?_) AllReadyH.nil
      refine step_grown (d := 94) rfl elemIn (by decide) (by decide) (v := .slice ha H.length hcp) (n := H.length) (m := 1) (xs := flatP H) (news := [.int .i64 (ik : Nat), .int .i64 (io : Nat), .int .i64 (in_ : Nat), .slice fa (zs ifl).length fc]) (B := B) (ad := ⟨W4.heap.size, 0, none⟩) (cap := 1) rfl (.tmp 91) (.tmp 93) rfl rfl rfl (World.ownsRow.alloc (unhide R4) (.cells #[.int .i64 (ik : Nat), .int .i64 (io : Nat), .int .i64 (in_ : Nat), .slice fa (zs ifl).length fc] 49)) rfl (World.news_of_block (heap_alloc_new W4 _)) (by simp [Value.oneCell']) (by omega) (by have := unhide HCNT; omega) (by show B ≤ (W4.alloc _).heap.size; simp; omega) ?_
      intro v5 w5 o5 f5 sh5
      obtain ⟨av, cv, rfl⟩ := sh5
      have hb5 : w5.heap[b]? = W4.heap[b]? := (f5.same b (by show b < (W4.alloc _).heap.size; simp; omega) (fun e => ((unhide HH).inT b (unhide HOWN b e)).2 rfl)).trans (Below.heap_alloc W4 _ _ hb4)
      have p9 := (World.cell?_of_block (w := W4) (a := ⟨b, 9, none⟩) hb5).trans c9
      have pz9 := (World.frozen?_of_block (w := W4) (a := ⟨b, 9, none⟩) hb5).trans z9'
      have nown : ∀ q, w.heap.size ≤ q → ¬ own (.slice ha H.length hcp) q := fun q hq e => by have := (World.ownsRow.lt (unhide HROW) q e).2; omega
      have g7 : w5.heap[w.heap.size + 1]? = some (.cells #[.int .i64 (ik : Nat), .int .i64 (io : Nat), .int .i64 (in_ : Nat), .slice fa (zs ifl).length fc] 49) := (f5.same _ (by show _ < (W4.alloc _).heap.size; simp; omega) (nown _ (by omega))).trans (hq7 _)
      have g6 : w5.heap[w.heap.size]? = _ := (f5.same _ (by show _ < (W4.alloc _).heap.size; simp; omega) (nown _ (Nat.le_refl _))).trans ((Below.heap_alloc W4 _ _ l6).trans (unhide Y6))
      have O5 := hide o5
      have F5 := hide f5
      have G6 := hide g6
      have G7 := hide g7
      have k6 := fun j => cell_of_row w5 _ j _ 49 (0, 0) g6
      have t6 := fun j => frozen_rowE g6 j
      have k7 := fun j => cell_of_row w5 _ j _ 49 (0, 0) g7
      have l6' := (Array.getElem?_eq_some_iff.1 g6).1
      have l7' := (Array.getElem?_eq_some_iff.1 g7).1
      clear o5 f5 nown hb5
      refine hK'.out _ _ g7 (fun hHeld => ?_)
      clear hK' K'
      simp only [List.setIfInBounds_toArray, List.set_cons_zero, List.set_cons_succ]
      refine wpAnyH_take (i := 8) (oi := { dst := some 95, op := Op.nilCheck (Operand.tmp 87), type := 0, pos := "run.go:167", after := #[{ on := 0, ground := Ground.data }, { on := 0, ground := Ground.phase }, { on := 1, ground := Ground.phase }, { on := 2, ground := Ground.phase }, { on := 3, ground := Ground.phase }, { on := 4, ground := Ground.phase }, { on := 5, ground := Ground.phase }, { on := 6, ground := Ground.phase }, { on := 7, ground := Ground.phase }], guard := none }) (v := ?_) rfl (by kernel_rfl) (by kernel_rfl) (by kernel_rfl) (fun _ _ _ h => h) (Or.inl ⟨by rfl, ?_⟩) (by assumption) ?_
      rotate_left
      · intro w hSw; have c7 := fun j => cell_of_row w _ j _ 49 (0, 0) hSw; go_simp; try with_reducible rfl
      simp only [Act.put, List.setIfInBounds_toArray, List.set_cons_zero, List.set_cons_succ]
      refine wpAnyH_take (i := 9) (oi := { dst := some 96, op := Op.fieldAddr 180 (Operand.tmp 95) 4, type := 0, pos := "run.go:167", after := #[{ on := 8, ground := Ground.data }, { on := 0, ground := Ground.phase }, { on := 1, ground := Ground.phase }, { on := 2, ground := Ground.phase }, { on := 3, ground := Ground.phase }, { on := 4, ground := Ground.phase }, { on := 5, ground := Ground.phase }, { on := 6, ground := Ground.phase }, { on := 7, ground := Ground.phase }], guard := none }) (v := ?_) rfl (by kernel_rfl) (by kernel_rfl) (by kernel_rfl) (fun _ _ _ h => h) (Or.inl ⟨by rfl, ?_⟩) (by assumption) ?_
      rotate_left
      · intro w hSw; have c7 := fun j => cell_of_row w _ j _ 49 (0, 0) hSw; go_simp; try with_reducible rfl
      simp only [Act.put, List.setIfInBounds_toArray, List.set_cons_zero, List.set_cons_succ]
      refine wpAnyH_ready (rs := [10]) (by kernel_rfl) (by simp) ?_
      refine AllReadyH.cons (o := { dst := none, op := Op.store 44 (Operand.tmp 96) (Operand.tmp 94), type := 0, pos := "run.go:167", after := #[{ on := 9, ground := Ground.data }, { on := 7, ground := Ground.data }, { on := 7, ground := Ground.chain }, { on := 0, ground := Ground.phase }, { on := 1, ground := Ground.phase }, { on := 2, ground := Ground.phase }, { on := 3, ground := Ground.phase }, { on := 4, ground := Ground.phase }, { on := 5, ground := Ground.phase }, { on := 6, ground := Ground.phase }, { on := 7, ground := Ground.phase }], guard := none }) rfl (fun K' hK' => ?_) AllReadyH.nil
      go_simp
      refine hK'.out _ _ ?_ (fun hHeld => ?_)
      · exact (Below.heap_setCell _ _ _ _ hbz1).trans g7
      clear hK' K'
      try simp only [Act.put, List.setIfInBounds_toArray, List.set_cons_zero, List.set_cons_succ]
      refine wpAnyH_done (by kernel_rfl) ?_ _
      clear g6 g7
      go_wp2
      have y6 : (((((w5.setCell ⟨b, 9, none⟩ (.slice av (H.length + 1) cv)).setCell ⟨w.heap.size, 0, none⟩ (.int .i64 (ik : Nat))).setCell ⟨w.heap.size, 1, none⟩ (.int .i64 (io : Nat))).setCell ⟨w.heap.size, 2, none⟩ (.int .i64 (in_ : Nat))).setCell ⟨w.heap.size, 3, none⟩ (.slice fa (zs ifl).length fc)).heap[w.heap.size]? = some (.cells #[.int .i64 (ik : Nat), .int .i64 (io : Nat), .int .i64 (in_ : Nat), .slice fa (zs ifl).length fc] 49) := setCell_row _ _ 3 _ 49 _ (setCell_row _ _ 2 _ 49 _ (setCell_row _ _ 1 _ 49 _ (setCell_row _ _ 0 _ 49 _ ((Below.heap_setCell _ _ _ _ hbz).trans (unhide G6)))))
      have ky := fun j => cell_of_row _ _ j _ 49 (0, 0) y6
      have hfin := hear_finP (ob := (.cells #[.int .i64 (ik : Nat), .int .i64 (io : Nat), .int .i64 (in_ : Nat), .slice fa (zs ifl).length fc] 49)) (i := (ik, io, in_, ifl)) (unhide HH) (unhide HI8) (unhide HRS) (unhide HLEFT) (unhide HROW) (unhide HOWN) (unhide HCNT) (unhide HNH) (unhide HFI) (unhide C4) (unhide F04) hz4 (unhide O5) ⟨av, cv, rfl⟩ (unhide F5) (.int .i64 (ik : Nat)) (.int .i64 (io : Nat)) (.int .i64 (in_ : Nat)) (.slice fa (zs ifl).length fc)
      have HFIN := hide hfin
      clear hfin
      refine bodyPost_ret (v := .agg #[.int .i64 (ik : Nat), .int .i64 (io : Nat), .int .i64 (in_ : Nat), .slice fa (zs ifl).length fc]) (by simp [results, Tryz.results141, go_sem, ky]) rfl ?_
      exact ⟨fa, fc, rfl, (unhide HFIN).1, (unhide HFIN).2⟩
    · go_simp
      refine hK'.out _ _ ?_ (fun hHeld => ?_)
      · exact hq7 _
      clear hK' K'
      try simp only [Act.put, List.setIfInBounds_toArray, List.set_cons_zero, List.set_cons_succ]
      refine wpAnyH_ready (rs := [4]) (by kernel_rfl) (by simp) ?_
      refine AllReadyH.cons (o := { dst := some 91, op := Op.load 44 (Operand.tmp 90), type := 44, pos := "run.go:167", after := #[{ on := 3, ground := Ground.data }], guard := none }) rfl (fun K' hK' => ?_) AllReadyH.nil
      go_simp
      refine hK'.out _ _ ?_ (fun hHeld => ?_)
      · exact hq7 _
      clear hK' K'
      try simp only [Act.put, List.setIfInBounds_toArray, List.set_cons_zero, List.set_cons_succ]
      refine wpAnyH_ready (rs := [7]) (by kernel_rfl) (by simp) ?_
      refine AllReadyH.cons (o := { dst := some 94, op := Op.call { callee := Callee.builtin Builtin.append, args := #[Operand.tmp 91, Operand.tmp 93], argTypes := #[44, 44] }, type := 44, pos := "run.go:167", after := #[{ on := 4, ground := Ground.data }, { on := 6, ground := Ground.data }], guard := none }) rfl (fun K' hK' => ?_) AllReadyH.nil
      refine step_grown (d := 94) rfl elemIn (by decide) (by decide) (v := .slice ha H.length hcp) (n := H.length) (m := 1) (xs := flatP H) (news := [.int .i64 (ik : Nat), .int .i64 (io : Nat), .int .i64 (in_ : Nat), .slice fa (zs ifl).length fc]) (B := B) (ad := ⟨W4.heap.size, 0, none⟩) (cap := 1) rfl (.tmp 91) (.tmp 93) rfl rfl rfl (World.ownsRow.alloc (unhide R4) (.cells #[.int .i64 (ik : Nat), .int .i64 (io : Nat), .int .i64 (in_ : Nat), .slice fa (zs ifl).length fc] 49)) rfl (World.news_of_block (heap_alloc_new W4 _)) (by simp [Value.oneCell']) (by omega) (by have := unhide HCNT; omega) (by show B ≤ (W4.alloc _).heap.size; simp; omega) ?_
      intro v5 w5 o5 f5 sh5
      obtain ⟨av, cv, rfl⟩ := sh5
      have hb5 : w5.heap[b]? = W4.heap[b]? := (f5.same b (by show b < (W4.alloc _).heap.size; simp; omega) (fun e => ((unhide HH).inT b (unhide HOWN b e)).2 rfl)).trans (Below.heap_alloc W4 _ _ hb4)
      have p9 := (World.cell?_of_block (w := W4) (a := ⟨b, 9, none⟩) hb5).trans c9
      have pz9 := (World.frozen?_of_block (w := W4) (a := ⟨b, 9, none⟩) hb5).trans z9'
      have nown : ∀ q, w.heap.size ≤ q → ¬ own (.slice ha H.length hcp) q := fun q hq e => by have := (World.ownsRow.lt (unhide HROW) q e).2; omega
      have g7 : w5.heap[w.heap.size + 1]? = some (.cells #[.int .i64 (ik : Nat), .int .i64 (io : Nat), .int .i64 (in_ : Nat), .slice fa (zs ifl).length fc] 49) := (f5.same _ (by show _ < (W4.alloc _).heap.size; simp; omega) (nown _ (by omega))).trans (hq7 _)
      have g6 : w5.heap[w.heap.size]? = _ := (f5.same _ (by show _ < (W4.alloc _).heap.size; simp; omega) (nown _ (Nat.le_refl _))).trans ((Below.heap_alloc W4 _ _ l6).trans (unhide Y6))
      have O5 := hide o5
      have F5 := hide f5
      have G6 := hide g6
      have G7 := hide g7
      have k6 := fun j => cell_of_row w5 _ j _ 49 (0, 0) g6
      have t6 := fun j => frozen_rowE g6 j
      have k7 := fun j => cell_of_row w5 _ j _ 49 (0, 0) g7
      have l6' := (Array.getElem?_eq_some_iff.1 g6).1
      have l7' := (Array.getElem?_eq_some_iff.1 g7).1
      clear o5 f5 nown hb5
      refine hK'.out _ _ g7 (fun hHeld => ?_)
      clear hK' K'
      simp only [List.setIfInBounds_toArray, List.set_cons_zero, List.set_cons_succ]
      refine wpAnyH_take (i := 8) (oi := { dst := some 95, op := Op.nilCheck (Operand.tmp 87), type := 0, pos := "run.go:167", after := #[{ on := 0, ground := Ground.data }, { on := 0, ground := Ground.phase }, { on := 1, ground := Ground.phase }, { on := 2, ground := Ground.phase }, { on := 3, ground := Ground.phase }, { on := 4, ground := Ground.phase }, { on := 5, ground := Ground.phase }, { on := 6, ground := Ground.phase }, { on := 7, ground := Ground.phase }], guard := none }) (v := ?_) rfl (by kernel_rfl) (by kernel_rfl) (by kernel_rfl) (fun _ _ _ h => h) (Or.inl ⟨by rfl, ?_⟩) (by assumption) ?_
      rotate_left
      · intro w hSw; have c7 := fun j => cell_of_row w _ j _ 49 (0, 0) hSw; go_simp; try with_reducible rfl
      simp only [Act.put, List.setIfInBounds_toArray, List.set_cons_zero, List.set_cons_succ]
      refine wpAnyH_take (i := 9) (oi := { dst := some 96, op := Op.fieldAddr 180 (Operand.tmp 95) 4, type := 0, pos := "run.go:167", after := #[{ on := 8, ground := Ground.data }, { on := 0, ground := Ground.phase }, { on := 1, ground := Ground.phase }, { on := 2, ground := Ground.phase }, { on := 3, ground := Ground.phase }, { on := 4, ground := Ground.phase }, { on := 5, ground := Ground.phase }, { on := 6, ground := Ground.phase }, { on := 7, ground := Ground.phase }], guard := none }) (v := ?_) rfl (by kernel_rfl) (by kernel_rfl) (by kernel_rfl) (fun _ _ _ h => h) (Or.inl ⟨by rfl, ?_⟩) (by assumption) ?_
      rotate_left
      · intro w hSw; have c7 := fun j => cell_of_row w _ j _ 49 (0, 0) hSw; go_simp; try with_reducible rfl
      simp only [Act.put, List.setIfInBounds_toArray, List.set_cons_zero, List.set_cons_succ]
      refine wpAnyH_ready (rs := [10]) (by kernel_rfl) (by simp) ?_
      refine AllReadyH.cons (o := { dst := none, op := Op.store 44 (Operand.tmp 96) (Operand.tmp 94), type := 0, pos := "run.go:167", after := #[{ on := 9, ground := Ground.data }, { on := 7, ground := Ground.data }, { on := 7, ground := Ground.chain }, { on := 0, ground := Ground.phase }, { on := 1, ground := Ground.phase }, { on := 2, ground := Ground.phase }, { on := 3, ground := Ground.phase }, { on := 4, ground := Ground.phase }, { on := 5, ground := Ground.phase }, { on := 6, ground := Ground.phase }, { on := 7, ground := Ground.phase }], guard := none }) rfl (fun K' hK' => ?_) AllReadyH.nil
      go_simp
      refine hK'.out _ _ ?_ (fun hHeld => ?_)
      · exact (Below.heap_setCell _ _ _ _ hbz1).trans g7
      clear hK' K'
      try simp only [Act.put, List.setIfInBounds_toArray, List.set_cons_zero, List.set_cons_succ]
      refine wpAnyH_done (by kernel_rfl) ?_ _
      clear g6 g7
      go_wp2
      have y6 : (((((w5.setCell ⟨b, 9, none⟩ (.slice av (H.length + 1) cv)).setCell ⟨w.heap.size, 0, none⟩ (.int .i64 (ik : Nat))).setCell ⟨w.heap.size, 1, none⟩ (.int .i64 (io : Nat))).setCell ⟨w.heap.size, 2, none⟩ (.int .i64 (in_ : Nat))).setCell ⟨w.heap.size, 3, none⟩ (.slice fa (zs ifl).length fc)).heap[w.heap.size]? = some (.cells #[.int .i64 (ik : Nat), .int .i64 (io : Nat), .int .i64 (in_ : Nat), .slice fa (zs ifl).length fc] 49) := setCell_row _ _ 3 _ 49 _ (setCell_row _ _ 2 _ 49 _ (setCell_row _ _ 1 _ 49 _ (setCell_row _ _ 0 _ 49 _ ((Below.heap_setCell _ _ _ _ hbz).trans (unhide G6)))))
      have ky := fun j => cell_of_row _ _ j _ 49 (0, 0) y6
      have hfin := hear_finP (ob := (.cells #[.int .i64 (ik : Nat), .int .i64 (io : Nat), .int .i64 (in_ : Nat), .slice fa (zs ifl).length fc] 49)) (i := (ik, io, in_, ifl)) (unhide HH) (unhide HI8) (unhide HRS) (unhide HLEFT) (unhide HROW) (unhide HOWN) (unhide HCNT) (unhide HNH) (unhide HFI) (unhide C4) (unhide F04) hz4 (unhide O5) ⟨av, cv, rfl⟩ (unhide F5) (.int .i64 (ik : Nat)) (.int .i64 (io : Nat)) (.int .i64 (in_ : Nat)) (.slice fa (zs ifl).length fc)
      have HFIN := hide hfin
      clear hfin
      refine bodyPost_ret (v := .agg #[.int .i64 (ik : Nat), .int .i64 (io : Nat), .int .i64 (in_ : Nat), .slice fa (zs ifl).length fc]) (by simp [results, Tryz.results141, go_sem, ky]) rfl ?_
      exact ⟨fa, fc, rfl, (unhide HFIN).1, (unhide HFIN).2⟩
  · have hi8 : InpsC w (.slice (some ⟨q, off + 4, none⟩) m (c - 1)) rs (fun q => q < B) := by have := unhide HIN; simpa [hc1] using this
    have G4 := gen _ hi8
    have HI8 := hide hi8
    clear hi8
    clear HIN gen
    go_enter Tryz.func141, Tryz.ntmps141
    go_wp2
    generalize (Value.slice (some { block := q, off := off + 4 }) m (c - 1)) = v8 at HI8 G4 ⊢
    generalize hW4 : ((w.setCell ⟨b, 8, none⟩ v8).alloc (.cells #[.int .i64 0, .int .i64 0, .int .i64 0, .slice none 0 0] 49)).alloc (.cells #[.int .i64 (ik : Nat), .int .i64 (io : Nat), .int .i64 (in_ : Nat), .slice fa (zs ifl).length fc] 49) = W4 at G4 ⊢
    clear hW4
    obtain ⟨y7, y6, cells4, f04, hz4, hrow4, c9, z9'⟩ := unhide G4
    have l6 := (Array.getElem?_eq_some_iff.1 y6).1
    have l7 := (Array.getElem?_eq_some_iff.1 y7).1
    have Y7 := hide y7
    have Y6 := hide y6
    have R4 := hide hrow4
    have C4 := hide cells4
    have F04 := hide f04
    have hBW4 : B ≤ W4.heap.size := by omega
    have hb4 : b < W4.heap.size := by omega
    clear hrow4 cells4 f04 y6 y7 G4 k7 k8 k9 z8 z9 g0 g1 g2 g3 E9
    have hq7 : ∀ o, (W4.alloc o).drew.heap[w.heap.size + 1]? = some (.cells #[.int .i64 (ik : Nat), .int .i64 (io : Nat), .int .i64 (in_ : Nat), .slice fa (zs ifl).length fc] 49) := fun o => (Below.heap_alloc W4 o _ l7).trans (unhide Y7)
    have cq9 : ∀ o, (W4.alloc o).drew.cell? ⟨b, 9, none⟩ = some (.slice ha H.length hcp) := fun o => (World.cell?_of_block (w := W4) (a := ⟨b, 9, none⟩) (Below.heap_alloc W4 o _ hb4)).trans c9
    refine wp_region_held_drew (S := fun w' => w'.heap[w.heap.size + 1]? = some (.cells #[.int .i64 (ik : Nat), .int .i64 (io : Nat), .int .i64 (in_ : Nat), .slice fa (zs ifl).length fc] 49)) (by kernel_rfl) ?_ (fun hHeld => ?_)
    · exact unhide Y7
    refine wpAnyH_take (i := 0) (oi := { dst := some 87, op := Op.move (Operand.tmp 0), type := 177, pos := "run.go:167", after := #[], guard := none }) (v := ?_) rfl (by kernel_rfl) (by kernel_rfl) (by kernel_rfl) (fun _ _ _ h => h) (Or.inl ⟨by rfl, ?_⟩) (by assumption) ?_
    rotate_left
    · intro w hSw; have c7 := fun j => cell_of_row w _ j _ 49 (0, 0) hSw; go_simp; try with_reducible rfl
    simp only [Act.put, List.setIfInBounds_toArray, List.set_cons_zero, List.set_cons_succ]
    refine wpAnyH_take (i := 1) (oi := { dst := some 88, op := Op.move (Operand.tmp 0), type := 177, pos := "run.go:167", after := #[], guard := none }) (v := ?_) rfl (by kernel_rfl) (by kernel_rfl) (by kernel_rfl) (fun _ _ _ h => h) (Or.inl ⟨by rfl, ?_⟩) (by assumption) ?_
    rotate_left
    · intro w hSw; have c7 := fun j => cell_of_row w _ j _ 49 (0, 0) hSw; go_simp; try with_reducible rfl
    simp only [Act.put, List.setIfInBounds_toArray, List.set_cons_zero, List.set_cons_succ]
    refine wpAnyH_take (i := 2) (oi := { dst := some 89, op := Op.nilCheck (Operand.tmp 88), type := 0, pos := "run.go:167", after := #[{ on := 1, ground := Ground.data }], guard := none }) (v := ?_) rfl (by kernel_rfl) (by kernel_rfl) (by kernel_rfl) (fun _ _ _ h => h) (Or.inl ⟨by rfl, ?_⟩) (by assumption) ?_
    rotate_left
    · intro w hSw; have c7 := fun j => cell_of_row w _ j _ 49 (0, 0) hSw; go_simp; try with_reducible rfl
    simp only [Act.put, List.setIfInBounds_toArray, List.set_cons_zero, List.set_cons_succ]
    refine wpAnyH_take (i := 3) (oi := { dst := some 90, op := Op.fieldAddr 180 (Operand.tmp 89) 4, type := 0, pos := "run.go:167", after := #[{ on := 2, ground := Ground.data }], guard := none }) (v := ?_) rfl (by kernel_rfl) (by kernel_rfl) (by kernel_rfl) (fun _ _ _ h => h) (Or.inl ⟨by rfl, ?_⟩) (by assumption) ?_
    rotate_left
    · intro w hSw; have c7 := fun j => cell_of_row w _ j _ 49 (0, 0) hSw; go_simp; try with_reducible rfl
    simp only [Act.put, List.setIfInBounds_toArray, List.set_cons_zero, List.set_cons_succ]
    refine wpAnyH_take (i := 5) (oi := { dst := some 92, op := Op.load 49 (Operand.tmp 7), type := 49, pos := "run.go:167", after := #[], guard := none }) (v := ?_) rfl (by kernel_rfl) (by kernel_rfl) (by kernel_rfl) (fun _ _ _ h => h) (Or.inl ⟨by rfl, ?_⟩) (by assumption) ?_
    rotate_left
    · intro w hSw; have c7 := fun j => cell_of_row w _ j _ 49 (0, 0) hSw; go_simp; try with_reducible rfl
    simp only [Act.put, List.setIfInBounds_toArray, List.set_cons_zero, List.set_cons_succ]
    refine wpAnyH_ready (rs := [4, 6]) (by kernel_rfl) (by simp) ?_
    refine AllReadyH.cons (o := { dst := some 91, op := Op.load 44 (Operand.tmp 90), type := 44, pos := "run.go:167", after := #[{ on := 3, ground := Ground.data }], guard := none }) rfl (fun K' hK' => ?_) (AllReadyH.cons (o := { dst := some 93, op := Op.buildSlice 44 1 #[(0, Operand.tmp 92)], type := 44, pos := "run.go:167", after := #[{ on := 5, ground := Ground.data }], guard := none }) rfl (fun K' hK' => ?_) AllReadyH.nil)
    · go_simp
      refine hK'.out _ _ ?_ (fun hHeld => ?_)
      · exact unhide Y7
      clear hK' K'
      try simp only [Act.put, List.setIfInBounds_toArray, List.set_cons_zero, List.set_cons_succ]
      refine wpAnyH_ready (rs := [6]) (by kernel_rfl) (by simp) ?_
      refine AllReadyH.cons (o := { dst := some 93, op := Op.buildSlice 44 1 #[(0, Operand.tmp 92)], type := 44, pos := "run.go:167", after := #[{ on := 5, ground := Ground.data }], guard := none }) rfl (fun K' hK' => ?_) AllReadyH.nil
      go_simp
      refine hK'.out _ _ ?_ (fun hHeld => ?_)
      · exact hq7 _
      clear hK' K'
      try simp only [Act.put, List.setIfInBounds_toArray, List.set_cons_zero, List.set_cons_succ]
      refine wpAnyH_ready (rs := [7]) (by kernel_rfl) (by simp) ?_
      refine AllReadyH.cons (o := { dst := some 94, op := Op.call { callee := Callee.builtin Builtin.append, args := #[Operand.tmp 91, Operand.tmp 93], argTypes := #[44, 44] }, type := 44, pos := "run.go:167", after := #[{ on := 4, ground := Ground.data }, { on := 6, ground := Ground.data }], guard := none }) rfl (fun K' hK' => ?_) AllReadyH.nil
      refine step_grown (d := 94) rfl elemIn (by decide) (by decide) (v := .slice ha H.length hcp) (n := H.length) (m := 1) (xs := flatP H) (news := [.int .i64 (ik : Nat), .int .i64 (io : Nat), .int .i64 (in_ : Nat), .slice fa (zs ifl).length fc]) (B := B) (ad := ⟨W4.heap.size, 0, none⟩) (cap := 1) rfl (.tmp 91) (.tmp 93) rfl rfl rfl (World.ownsRow.alloc (unhide R4) (.cells #[.int .i64 (ik : Nat), .int .i64 (io : Nat), .int .i64 (in_ : Nat), .slice fa (zs ifl).length fc] 49)) rfl (World.news_of_block (heap_alloc_new W4 _)) (by simp [Value.oneCell']) (by omega) (by have := unhide HCNT; omega) (by show B ≤ (W4.alloc _).heap.size; simp; omega) ?_
      intro v5 w5 o5 f5 sh5
      obtain ⟨av, cv, rfl⟩ := sh5
      have hb5 : w5.heap[b]? = W4.heap[b]? := (f5.same b (by show b < (W4.alloc _).heap.size; simp; omega) (fun e => ((unhide HH).inT b (unhide HOWN b e)).2 rfl)).trans (Below.heap_alloc W4 _ _ hb4)
      have p9 := (World.cell?_of_block (w := W4) (a := ⟨b, 9, none⟩) hb5).trans c9
      have pz9 := (World.frozen?_of_block (w := W4) (a := ⟨b, 9, none⟩) hb5).trans z9'
      have nown : ∀ q, w.heap.size ≤ q → ¬ own (.slice ha H.length hcp) q := fun q hq e => by have := (World.ownsRow.lt (unhide HROW) q e).2; omega
      have g7 : w5.heap[w.heap.size + 1]? = some (.cells #[.int .i64 (ik : Nat), .int .i64 (io : Nat), .int .i64 (in_ : Nat), .slice fa (zs ifl).length fc] 49) := (f5.same _ (by show _ < (W4.alloc _).heap.size; simp; omega) (nown _ (by omega))).trans (hq7 _)
      have g6 : w5.heap[w.heap.size]? = _ := (f5.same _ (by show _ < (W4.alloc _).heap.size; simp; omega) (nown _ (Nat.le_refl _))).trans ((Below.heap_alloc W4 _ _ l6).trans (unhide Y6))
      have O5 := hide o5
      have F5 := hide f5
      have G6 := hide g6
      have G7 := hide g7
      have k6 := fun j => cell_of_row w5 _ j _ 49 (0, 0) g6
      have t6 := fun j => frozen_rowE g6 j
      have k7 := fun j => cell_of_row w5 _ j _ 49 (0, 0) g7
      have l6' := (Array.getElem?_eq_some_iff.1 g6).1
      have l7' := (Array.getElem?_eq_some_iff.1 g7).1
      clear o5 f5 nown hb5
      refine hK'.out _ _ g7 (fun hHeld => ?_)
      clear hK' K'
      simp only [List.setIfInBounds_toArray, List.set_cons_zero, List.set_cons_succ]
      refine wpAnyH_take (i := 8) (oi := { dst := some 95, op := Op.nilCheck (Operand.tmp 87), type := 0, pos := "run.go:167", after := #[{ on := 0, ground := Ground.data }, { on := 0, ground := Ground.phase }, { on := 1, ground := Ground.phase }, { on := 2, ground := Ground.phase }, { on := 3, ground := Ground.phase }, { on := 4, ground := Ground.phase }, { on := 5, ground := Ground.phase }, { on := 6, ground := Ground.phase }, { on := 7, ground := Ground.phase }], guard := none }) (v := ?_) rfl (by kernel_rfl) (by kernel_rfl) (by kernel_rfl) (fun _ _ _ h => h) (Or.inl ⟨by rfl, ?_⟩) (by assumption) ?_
      rotate_left
      · intro w hSw; have c7 := fun j => cell_of_row w _ j _ 49 (0, 0) hSw; go_simp; try with_reducible rfl
      simp only [Act.put, List.setIfInBounds_toArray, List.set_cons_zero, List.set_cons_succ]
      refine wpAnyH_take (i := 9) (oi := { dst := some 96, op := Op.fieldAddr 180 (Operand.tmp 95) 4, type := 0, pos := "run.go:167", after := #[{ on := 8, ground := Ground.data }, { on := 0, ground := Ground.phase }, { on := 1, ground := Ground.phase }, { on := 2, ground := Ground.phase }, { on := 3, ground := Ground.phase }, { on := 4, ground := Ground.phase }, { on := 5, ground := Ground.phase }, { on := 6, ground := Ground.phase }, { on := 7, ground := Ground.phase }], guard := none }) (v := ?_) rfl (by kernel_rfl) (by kernel_rfl) (by kernel_rfl) (fun _ _ _ h => h) (Or.inl ⟨by rfl, ?_⟩) (by assumption) ?_
      rotate_left
      · intro w hSw; have c7 := fun j => cell_of_row w _ j _ 49 (0, 0) hSw; go_simp; try with_reducible rfl
      simp only [Act.put, List.setIfInBounds_toArray, List.set_cons_zero, List.set_cons_succ]
      refine wpAnyH_ready (rs := [10]) (by kernel_rfl) (by simp) ?_
      refine AllReadyH.cons (o := { dst := none, op := Op.store 44 (Operand.tmp 96) (Operand.tmp 94), type := 0, pos := "run.go:167", after := #[{ on := 9, ground := Ground.data }, { on := 7, ground := Ground.data }, { on := 7, ground := Ground.chain }, { on := 0, ground := Ground.phase }, { on := 1, ground := Ground.phase }, { on := 2, ground := Ground.phase }, { on := 3, ground := Ground.phase }, { on := 4, ground := Ground.phase }, { on := 5, ground := Ground.phase }, { on := 6, ground := Ground.phase }, { on := 7, ground := Ground.phase }], guard := none }) rfl (fun K' hK' => ?_) AllReadyH.nil
      go_simp
      refine hK'.out _ _ ?_ (fun hHeld => ?_)
      · exact (Below.heap_setCell _ _ _ _ hbz1).trans g7
      clear hK' K'
      try simp only [Act.put, List.setIfInBounds_toArray, List.set_cons_zero, List.set_cons_succ]
      refine wpAnyH_done (by kernel_rfl) ?_ _
      clear g6 g7
      go_wp2
      have y6 : (((((w5.setCell ⟨b, 9, none⟩ (.slice av (H.length + 1) cv)).setCell ⟨w.heap.size, 0, none⟩ (.int .i64 (ik : Nat))).setCell ⟨w.heap.size, 1, none⟩ (.int .i64 (io : Nat))).setCell ⟨w.heap.size, 2, none⟩ (.int .i64 (in_ : Nat))).setCell ⟨w.heap.size, 3, none⟩ (.slice fa (zs ifl).length fc)).heap[w.heap.size]? = some (.cells #[.int .i64 (ik : Nat), .int .i64 (io : Nat), .int .i64 (in_ : Nat), .slice fa (zs ifl).length fc] 49) := setCell_row _ _ 3 _ 49 _ (setCell_row _ _ 2 _ 49 _ (setCell_row _ _ 1 _ 49 _ (setCell_row _ _ 0 _ 49 _ ((Below.heap_setCell _ _ _ _ hbz).trans (unhide G6)))))
      have ky := fun j => cell_of_row _ _ j _ 49 (0, 0) y6
      have hfin := hear_finP (ob := (.cells #[.int .i64 (ik : Nat), .int .i64 (io : Nat), .int .i64 (in_ : Nat), .slice fa (zs ifl).length fc] 49)) (i := (ik, io, in_, ifl)) (unhide HH) (unhide HI8) (unhide HRS) (unhide HLEFT) (unhide HROW) (unhide HOWN) (unhide HCNT) (unhide HNH) (unhide HFI) (unhide C4) (unhide F04) hz4 (unhide O5) ⟨av, cv, rfl⟩ (unhide F5) (.int .i64 (ik : Nat)) (.int .i64 (io : Nat)) (.int .i64 (in_ : Nat)) (.slice fa (zs ifl).length fc)
      have HFIN := hide hfin
      clear hfin
      refine bodyPost_ret (v := .agg #[.int .i64 (ik : Nat), .int .i64 (io : Nat), .int .i64 (in_ : Nat), .slice fa (zs ifl).length fc]) (by simp [results, Tryz.results141, go_sem, ky]) rfl ?_
      exact ⟨fa, fc, rfl, (unhide HFIN).1, (unhide HFIN).2⟩
    · go_simp
      refine hK'.out _ _ ?_ (fun hHeld => ?_)
      · exact hq7 _
      clear hK' K'
      try simp only [Act.put, List.setIfInBounds_toArray, List.set_cons_zero, List.set_cons_succ]
      refine wpAnyH_ready (rs := [4]) (by kernel_rfl) (by simp) ?_
      refine AllReadyH.cons (o := { dst := some 91, op := Op.load 44 (Operand.tmp 90), type := 44, pos := "run.go:167", after := #[{ on := 3, ground := Ground.data }], guard := none }) rfl (fun K' hK' => ?_) AllReadyH.nil
      go_simp
      refine hK'.out _ _ ?_ (fun hHeld => ?_)
      · exact hq7 _
      clear hK' K'
      try simp only [Act.put, List.setIfInBounds_toArray, List.set_cons_zero, List.set_cons_succ]
      refine wpAnyH_ready (rs := [7]) (by kernel_rfl) (by simp) ?_
      refine AllReadyH.cons (o := { dst := some 94, op := Op.call { callee := Callee.builtin Builtin.append, args := #[Operand.tmp 91, Operand.tmp 93], argTypes := #[44, 44] }, type := 44, pos := "run.go:167", after := #[{ on := 4, ground := Ground.data }, { on := 6, ground := Ground.data }], guard := none }) rfl (fun K' hK' => ?_) AllReadyH.nil
      refine step_grown (d := 94) rfl elemIn (by decide) (by decide) (v := .slice ha H.length hcp) (n := H.length) (m := 1) (xs := flatP H) (news := [.int .i64 (ik : Nat), .int .i64 (io : Nat), .int .i64 (in_ : Nat), .slice fa (zs ifl).length fc]) (B := B) (ad := ⟨W4.heap.size, 0, none⟩) (cap := 1) rfl (.tmp 91) (.tmp 93) rfl rfl rfl (World.ownsRow.alloc (unhide R4) (.cells #[.int .i64 (ik : Nat), .int .i64 (io : Nat), .int .i64 (in_ : Nat), .slice fa (zs ifl).length fc] 49)) rfl (World.news_of_block (heap_alloc_new W4 _)) (by simp [Value.oneCell']) (by omega) (by have := unhide HCNT; omega) (by show B ≤ (W4.alloc _).heap.size; simp; omega) ?_
      intro v5 w5 o5 f5 sh5
      obtain ⟨av, cv, rfl⟩ := sh5
      have hb5 : w5.heap[b]? = W4.heap[b]? := (f5.same b (by show b < (W4.alloc _).heap.size; simp; omega) (fun e => ((unhide HH).inT b (unhide HOWN b e)).2 rfl)).trans (Below.heap_alloc W4 _ _ hb4)
      have p9 := (World.cell?_of_block (w := W4) (a := ⟨b, 9, none⟩) hb5).trans c9
      have pz9 := (World.frozen?_of_block (w := W4) (a := ⟨b, 9, none⟩) hb5).trans z9'
      have nown : ∀ q, w.heap.size ≤ q → ¬ own (.slice ha H.length hcp) q := fun q hq e => by have := (World.ownsRow.lt (unhide HROW) q e).2; omega
      have g7 : w5.heap[w.heap.size + 1]? = some (.cells #[.int .i64 (ik : Nat), .int .i64 (io : Nat), .int .i64 (in_ : Nat), .slice fa (zs ifl).length fc] 49) := (f5.same _ (by show _ < (W4.alloc _).heap.size; simp; omega) (nown _ (by omega))).trans (hq7 _)
      have g6 : w5.heap[w.heap.size]? = _ := (f5.same _ (by show _ < (W4.alloc _).heap.size; simp; omega) (nown _ (Nat.le_refl _))).trans ((Below.heap_alloc W4 _ _ l6).trans (unhide Y6))
      have O5 := hide o5
      have F5 := hide f5
      have G6 := hide g6
      have G7 := hide g7
      have k6 := fun j => cell_of_row w5 _ j _ 49 (0, 0) g6
      have t6 := fun j => frozen_rowE g6 j
      have k7 := fun j => cell_of_row w5 _ j _ 49 (0, 0) g7
      have l6' := (Array.getElem?_eq_some_iff.1 g6).1
      have l7' := (Array.getElem?_eq_some_iff.1 g7).1
      clear o5 f5 nown hb5
      refine hK'.out _ _ g7 (fun hHeld => ?_)
      clear hK' K'
      simp only [List.setIfInBounds_toArray, List.set_cons_zero, List.set_cons_succ]
      refine wpAnyH_take (i := 8) (oi := { dst := some 95, op := Op.nilCheck (Operand.tmp 87), type := 0, pos := "run.go:167", after := #[{ on := 0, ground := Ground.data }, { on := 0, ground := Ground.phase }, { on := 1, ground := Ground.phase }, { on := 2, ground := Ground.phase }, { on := 3, ground := Ground.phase }, { on := 4, ground := Ground.phase }, { on := 5, ground := Ground.phase }, { on := 6, ground := Ground.phase }, { on := 7, ground := Ground.phase }], guard := none }) (v := ?_) rfl (by kernel_rfl) (by kernel_rfl) (by kernel_rfl) (fun _ _ _ h => h) (Or.inl ⟨by rfl, ?_⟩) (by assumption) ?_
      rotate_left
      · intro w hSw; have c7 := fun j => cell_of_row w _ j _ 49 (0, 0) hSw; go_simp; try with_reducible rfl
      simp only [Act.put, List.setIfInBounds_toArray, List.set_cons_zero, List.set_cons_succ]
      refine wpAnyH_take (i := 9) (oi := { dst := some 96, op := Op.fieldAddr 180 (Operand.tmp 95) 4, type := 0, pos := "run.go:167", after := #[{ on := 8, ground := Ground.data }, { on := 0, ground := Ground.phase }, { on := 1, ground := Ground.phase }, { on := 2, ground := Ground.phase }, { on := 3, ground := Ground.phase }, { on := 4, ground := Ground.phase }, { on := 5, ground := Ground.phase }, { on := 6, ground := Ground.phase }, { on := 7, ground := Ground.phase }], guard := none }) (v := ?_) rfl (by kernel_rfl) (by kernel_rfl) (by kernel_rfl) (fun _ _ _ h => h) (Or.inl ⟨by rfl, ?_⟩) (by assumption) ?_
      rotate_left
      · intro w hSw; have c7 := fun j => cell_of_row w _ j _ 49 (0, 0) hSw; go_simp; try with_reducible rfl
      simp only [Act.put, List.setIfInBounds_toArray, List.set_cons_zero, List.set_cons_succ]
      refine wpAnyH_ready (rs := [10]) (by kernel_rfl) (by simp) ?_
      refine AllReadyH.cons (o := { dst := none, op := Op.store 44 (Operand.tmp 96) (Operand.tmp 94), type := 0, pos := "run.go:167", after := #[{ on := 9, ground := Ground.data }, { on := 7, ground := Ground.data }, { on := 7, ground := Ground.chain }, { on := 0, ground := Ground.phase }, { on := 1, ground := Ground.phase }, { on := 2, ground := Ground.phase }, { on := 3, ground := Ground.phase }, { on := 4, ground := Ground.phase }, { on := 5, ground := Ground.phase }, { on := 6, ground := Ground.phase }, { on := 7, ground := Ground.phase }], guard := none }) rfl (fun K' hK' => ?_) AllReadyH.nil
      go_simp
      refine hK'.out _ _ ?_ (fun hHeld => ?_)
      · exact (Below.heap_setCell _ _ _ _ hbz1).trans g7
      clear hK' K'
      try simp only [Act.put, List.setIfInBounds_toArray, List.set_cons_zero, List.set_cons_succ]
      refine wpAnyH_done (by kernel_rfl) ?_ _
      clear g6 g7
      go_wp2
      have y6 : (((((w5.setCell ⟨b, 9, none⟩ (.slice av (H.length + 1) cv)).setCell ⟨w.heap.size, 0, none⟩ (.int .i64 (ik : Nat))).setCell ⟨w.heap.size, 1, none⟩ (.int .i64 (io : Nat))).setCell ⟨w.heap.size, 2, none⟩ (.int .i64 (in_ : Nat))).setCell ⟨w.heap.size, 3, none⟩ (.slice fa (zs ifl).length fc)).heap[w.heap.size]? = some (.cells #[.int .i64 (ik : Nat), .int .i64 (io : Nat), .int .i64 (in_ : Nat), .slice fa (zs ifl).length fc] 49) := setCell_row _ _ 3 _ 49 _ (setCell_row _ _ 2 _ 49 _ (setCell_row _ _ 1 _ 49 _ (setCell_row _ _ 0 _ 49 _ ((Below.heap_setCell _ _ _ _ hbz).trans (unhide G6)))))
      have ky := fun j => cell_of_row _ _ j _ 49 (0, 0) y6
      have hfin := hear_finP (ob := (.cells #[.int .i64 (ik : Nat), .int .i64 (io : Nat), .int .i64 (in_ : Nat), .slice fa (zs ifl).length fc] 49)) (i := (ik, io, in_, ifl)) (unhide HH) (unhide HI8) (unhide HRS) (unhide HLEFT) (unhide HROW) (unhide HOWN) (unhide HCNT) (unhide HNH) (unhide HFI) (unhide C4) (unhide F04) hz4 (unhide O5) ⟨av, cv, rfl⟩ (unhide F5) (.int .i64 (ik : Nat)) (.int .i64 (io : Nat)) (.int .i64 (in_ : Nat)) (.slice fa (zs ifl).length fc)
      have HFIN := hide hfin
      clear hfin
      refine bodyPost_ret (v := .agg #[.int .i64 (ik : Nat), .int .i64 (io : Nat), .int .i64 (in_ : Nat), .slice fa (zs ifl).length fc]) (by simp [results, Tryz.results141, go_sem, ky]) rfl ?_
      exact ⟨fa, fc, rfl, (unhide HFIN).1, (unhide HFIN).2⟩
end
end Go.Proofs.YtfmbebofllgmoaaGreatDoor
namespace Go.Proofs.YtfmbebofllgmoaaGreatDoor
open Go.RowKit

theorem repQ_hear (B : Nat) : HearQ (SQP B) repAskQ mayR B := ⟨fun {S T w b pv vt va s A tn sq y k o} h hf hm => by
  have hk5 : k ≠ 5 := by
    rcases hm with ⟨rfl, _⟩ | ⟨rfl, _⟩ | ⟨rfl, _⟩ | ⟨rfl, _⟩ <;> omega
  have hno : (repR y.1 k o = noRep) → (y.1 = [] ∨ ∃ x r, y.1 = x :: r ∧ x.1 = 5 ∧ x.2.2.1 = 5) → Calls Tryz.prog 141 #[.pointer (some ⟨b, 0, none⟩), .int .i64 k, .int .i64 o] w fun e w' => ∃ kd of_ n fa fl fc, e = .returned (.agg #[.int .i64 kd, .int .i64 of_, .int .i64 n, .slice fa fl fc]) ∧ LPostS (SQP B) B S w b pv vt va A tn sq (hearS s (repAskQ y k o).1) (repAskQ y k o).2 w' ∧
      ((repAskQ y k o).1.e = 0 → n = (repAskQ y k o).1.n ∧ IntsIn w' (.slice fa fl fc) (repAskQ y k o).1.files (fun q => q < w'.heap.size)) := by
    intro hR he
    refine (hearP_end h k o he).mono ?_
    rintro e w' ⟨rfl, hl⟩
    have e1 : repAskQ y k o = (noRep, y) := by unfold repAskQ; rw [hR]; rfl
    rw [e1]
    exact ⟨0, 0, 0, none, 0, 0, rfl, hl, fun h => absurd h (by simp [noRep])⟩
  cases hy : y.1 with
  | nil => exact hno (by rw [hy]; rfl) (.inl hy)
  | cons x r =>
    by_cases h5 : x.1 = 5 ∧ x.2.2.1 = 5
    · exact hno (by rw [hy]; simp only [repR]; rw [if_pos h5]) (.inr ⟨x, r, hy, h5.1, h5.2⟩)
    by_cases hd : (x.1 : Int) ≠ k ∨ (x.2.1 : Int) ≠ o
    · refine (hearP_div h k o hy h5 hk5 hd).mono ?_
      rintro e w' ⟨rfl, hl⟩
      have hR : repR y.1 k o = divRep := by rw [hy]; simp only [repR]; rw [if_neg h5, if_pos hd]
      have e1 : repAskQ y k o = (divRep, y) := by unfold repAskQ; rw [hR]; rfl
      rw [e1]
      exact ⟨0, 0, 0, none, 0, 0, rfl, hl, fun h => absurd h (by simp [divRep])⟩
    · have hR : repR y.1 k o = inpR x := by rw [hy]; simp only [repR]; rw [if_neg h5, if_neg hd]
      have e1 : repAskQ y k o = (inpR x, y.tail) := by unfold repAskQ; rw [hR]; rfl
      rw [e1]
      obtain rfl : (x.1 : Int) = k := by omega
      obtain rfl : (x.2.1 : Int) = o := by omega
      refine (hearP_ok h x hy (by omega)).mono ?_
      rintro e w' ⟨fa, fc, rfl, hl, hi⟩
      exact ⟨_, _, _, fa, _, fc, rfl, hl, fun _ => ⟨rfl, hi⟩⟩⟩
end Go.Proofs.YtfmbebofllgmoaaGreatDoor
