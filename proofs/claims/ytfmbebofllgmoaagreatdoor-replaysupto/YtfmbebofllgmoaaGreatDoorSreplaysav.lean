/-
  PROVED HERE: the reader's input: a batch.
-/
import Derived.Test.YtfmbebofllgmoaaGreatDoorProg
import Derived.WalkKit
import Derived.WalkSpells
import Derived.WalkLawsBesides
import Derived.Deep.QuietTactic
import Derived.BigQuiet
import Derived.Deep.RegionHeld3
import Derived.Deep.AppendLies
import Derived.Laws.EntriesVeiled
import Derived.Deep.DrawnRows
import Derived.BigRegion
import Derived.Deep.LoopGhost
import Derived.Deep.RegionLaw
import Derived.Lib.SliceRun
import Derived.Laws.BytesString
import Derived.ArgAppend
import Derived.Deep.DeepCutAuto
import Derived.RangeFuncOwn
import Derived.Test.YtfmbebofllgmoaaGreatDoorSreplaysau
namespace Go.Proofs.YtfmbebofllgmoaaGreatDoor
open Go.RowKit
attribute [local go_sem ↓] Go.wp_at_zero Go.wp_at_succ

theorem Fr.nil {w w' : World} {S' : Nat → Prop} (h : Fr (own (.slice none 0 0)) w w' S') : Fr (fun _ => False) w w' (fun _ => False) :=
  ⟨h.os, h.tape, h.output, h.size, fun k hk _ => h.same k hk (fun e => by simp [own, Value.ownBlock] at e), fun _ _ h => h⟩
theorem ownsRow_low {w : World} {B B' e size n : Nat} {v : Value} {xs : List Value} (h : w.ownsRow B e size v n xs) (hB : B' ≤ B) : w.ownsRow B' e size v n xs :=
  ⟨h.1, h.2.imp id fun ⟨g, cap, cur, e1, e2, r⟩ => ⟨g, cap, cur, e1, by omega, r⟩⟩
theorem step_grow_at {ops : Array Oper} {o : Oper} {a : Act} {K : Act → World → Prop} {Q : Exit → Act → World → Prop} {E' : Prop} {w : World} {B t e size bytes d : Nat} (hd : o.dst = some d) (E : Elem t e size bytes) (hs0 : 0 < size) (hs1 : bytes ≤ 100) {v : Value} {n m : Nat} {xs news : List Value} (hgd : o.guard = none) (sv xv : Operand)
    (ho : o.op = .call { callee := .builtin .append, args := #[sv, xv], argTypes := #[t, t] }) {ad : Addr} {cap : Nat} (hs : a.eval sv = v) (hx : a.eval xv = .slice (some ad) m cap) (hrow : w.ownsRow B e size v n xs) (hl : news.length = m * size)
    (hc : ∀ j u, news[j]? = some u → w.cell? (ad.add j) = some u) (h1 : ∀ u ∈ news, u.oneCell' = true) (hm : 0 < m) (hn : n + m ≤ 1000000) (hB : B ≤ w.heap.size)
    (h : ∀ v' w', w'.ownsRow B e size v' (n + m) (xs ++ news) → Fr (own v) w w' (own v') → (∃ a c, v' = .slice a (n + m) c) → K ⟨a.tmps.setIfInBounds d v', a.defers⟩ w') : if Region.wanted o (yielded ops a.tmps) = true then Oper.wp Tryz.prog o a w K Q else E' :=
  step_grow E hs0 hs1 hgd sv xv ho hs hx hrow hl hc h1 hm hn hB (fun v' w' p1 p2 p3 => by rw [hd]; exact h v' w' p1 p2 p3)

set_option maxHeartbeats 2000000 in
set_option maxRecDepth 20000 in
theorem input_batch_no (b : ByteArray) (h0 : 0 < b.size) (hs : b.size ≤ 40) (w : World) (x : Nat) (t : List Nat) (hv : varsM (b.extract 1 b.size) = some (x :: t)) (hk : byteAt b 0 = 2) (ht : 0 < t.length) (hx : x ≠ t.length) : Calls Tryz.prog 101 #[.string b] w (InPost b w) := by
  have hse : (b.extract 1 b.size).size = b.size - 1 := by simp [ByteArray.size_extract]
  have HM : Hid (inpM b = if x = t.length ∧ risL (-1) (zs t) = true then some (0, 0, t) else none) := hide (by unfold inpM; rw [hv, hk]; rfl)
  have hb0 : ((b[0]'h0).toNat : Int) = 2 := by rw [← byteAt_eq b 0 h0, hk]; rfl
  have HV := hide hv
  have HK := hide hk
  have HC := hide fun w => varints_any (b.extract 1 b.size) (by omega) w
  clear hv
  go_enter Tryz.func101, Tryz.ntmps101
  go_wp2_with (go_at_call 122; (refine (unhide HC _).mono ?_; rintro e w1 p1; obtain ⟨f1, hl1, v1, rfl, o1⟩ := vs_some p1 (unhide HV); have F1 := hide f1; obtain ⟨g, cap, cur, rfl, hg1, hg2, hg3, hg4, hg5, hg6⟩ := ownI_parts o1 (by simp [zs]); rw [zs_len] at hg3 ⊢; have hg7 : w.heap.size < g := (by simp at hg1; omega); have hne : w.heap.size ≠ g := (by omega); have HG6 := hide hg6; have hl2 : (x :: t).length = t.length + 1 := rfl; rw [hl2] at hg3 ⊢; have hl1' : t.length ≤ 100 := (by simp at hl1; omega); clear hg1 hg2 hg4 hg5 cur hl1 hk p1 f1 o1 hg6))
  have cz : w1.cell? ⟨g, 0, none⟩ = some (.int .i64 x) := unhide HG6 0 (by simp [zs])
  have hx1 : ((x : Int) == (t.length : Int)) = false := beq_eq_false_iff_ne.2 (by omega)
  have hgz : g < w1.heap.size := by
    obtain ⟨o, ho, _⟩ := cells_of_cell cz; exact (Array.getElem?_eq_some_iff.1 ho).1
  have hc1 : ¬ cap = 1 := by omega
  have hi1 : (1 : Int) ≤ (t.length : Int) + 1 := by omega
  have hwr : IntKind.i64.wrap (t.length : Int) = t.length := by rw [IntKind.wrap_i64]; omega
  have hw1 : w.heap.size ≤ w1.heap.size := by omega
  have HT := hide ht
  have HX := hide hx
  have HL := hide (show t.length ≤ 100 by omega)
  clear ht hx hl2
  refine wp_region_held_drew (S := fun w' => w'.cell? ⟨g, 0, none⟩ = some (.int .i64 x)) (by kernel_rfl) ?_ (fun hHeld => ?_)
  · simp [go_sem, cz]
  refine take_yes (i := 0) (d := 44) (v := ?_) (fuel := 18) rfl rfl (by kernel_rfl) (by kernel_rfl) (by kernel_rfl) (fun _ _ _ h => h) (by rfl) ?_ (by assumption) ?_
  rotate_left
  · intro w hSw; (try dsimp only at hSw); go_simp; try with_reducible rfl
  simp only [List.setIfInBounds_toArray, List.set_cons_zero, List.set_cons_succ]
  refine take_yes (i := 1) (d := 45) (v := ?_) (fuel := 17) rfl rfl (by kernel_rfl) (by kernel_rfl) (by kernel_rfl) (fun _ _ _ h => h) (by rfl) ?_ (by assumption) ?_
  rotate_left
  · intro w hSw; (try dsimp only at hSw); go_simp; try with_reducible rfl
  simp only [List.setIfInBounds_toArray, List.set_cons_zero, List.set_cons_succ]
  refine take_yes (i := 2) (d := 46) (v := ?_) (fuel := 16) rfl rfl (by kernel_rfl) (by kernel_rfl) (by kernel_rfl) (fun _ _ _ h => h) (by rfl) ?_ (by assumption) ?_
  rotate_left
  · intro w hSw; (try dsimp only at hSw); go_simp; try with_reducible rfl
  simp only [List.setIfInBounds_toArray, List.set_cons_zero, List.set_cons_succ]
  refine take_yes (i := 5) (d := 49) (v := ?_) (fuel := 15) rfl rfl (by kernel_rfl) (by kernel_rfl) (by kernel_rfl) (fun _ _ _ h => h) (by rfl) ?_ (by assumption) ?_
  rotate_left
  · intro w hSw; (try dsimp only at hSw); go_simp; try with_reducible rfl
  simp only [List.setIfInBounds_toArray, List.set_cons_zero, List.set_cons_succ]
  refine take_yes (i := 6) (d := 50) (v := ?_) (fuel := 14) rfl rfl (by kernel_rfl) (by kernel_rfl) (by kernel_rfl) (fun _ _ _ h => h) (by rfl) ?_ (by assumption) ?_
  rotate_left
  · intro w hSw; (try dsimp only at hSw); go_simp; try with_reducible rfl
  simp only [List.setIfInBounds_toArray, List.set_cons_zero, List.set_cons_succ]
  refine take_yes (i := 7) (d := 51) (v := ?_) (fuel := 13) rfl rfl (by kernel_rfl) (by kernel_rfl) (by kernel_rfl) (fun _ _ _ h => h) (by rfl) ?_ (by assumption) ?_
  rotate_left
  · intro w hSw; (try dsimp only at hSw); go_simp; try with_reducible rfl
  simp only [List.setIfInBounds_toArray, List.set_cons_zero, List.set_cons_succ]
  refine take_yes (i := 8) (d := 52) (v := ?_) (fuel := 12) rfl rfl (by kernel_rfl) (by kernel_rfl) (by kernel_rfl) (fun _ _ _ h => h) (by rfl) ?_ (by assumption) ?_
  rotate_left
  · intro w hSw; (try dsimp only at hSw); go_simp; try with_reducible rfl
  simp only [List.setIfInBounds_toArray, List.set_cons_zero, List.set_cons_succ]
  refine take_yes (i := 9) (d := 53) (v := ?_) (fuel := 11) rfl rfl (by kernel_rfl) (by kernel_rfl) (by kernel_rfl) (fun _ _ _ h => h) (by rfl) ?_ (by assumption) ?_
  rotate_left
  · intro w hSw; (try dsimp only at hSw); go_simp; try with_reducible rfl
  simp only [List.setIfInBounds_toArray, List.set_cons_zero, List.set_cons_succ]
  refine take_yes (i := 10) (d := 54) (v := ?_) (fuel := 10) rfl rfl (by kernel_rfl) (by kernel_rfl) (by kernel_rfl) (fun _ _ _ h => h) (by rfl) ?_ (by assumption) ?_
  rotate_left
  · intro w hSw; (try dsimp only at hSw); go_simp; try with_reducible rfl
  simp only [List.setIfInBounds_toArray, List.set_cons_zero, List.set_cons_succ]
  refine take_yes (i := 11) (d := 55) (v := ?_) (fuel := 9) rfl rfl (by kernel_rfl) (by kernel_rfl) (by kernel_rfl) (fun _ _ _ h => h) (by rfl) ?_ (by assumption) ?_
  rotate_left
  · intro w hSw; (try dsimp only at hSw); go_simp; try with_reducible rfl
  simp only [List.setIfInBounds_toArray, List.set_cons_zero, List.set_cons_succ]
  refine wpAnyH_ready (rs := [3]) (by kernel_rfl) (by simp) ?_
  refine AllReadyH.cons rfl (fun K hK => ?_) AllReadyH.nil
  refine step_grow_at (d := 47) rfl elemI (by decide) (by decide) (v := .slice none 0 0) (n := 0) (m := t.length) (xs := []) (news := (zs t).map (Value.int .i64)) (B := w1.heap.size) (ad := ⟨g, 1, none⟩) (cap := cap - 1) rfl (.const (.slice none 0 0)) (.tmp 46) rfl rfl rfl (World.ownsRow_nil _ _ _ _) (by simp [zs]) ?_ (by simp [Value.oneCell']) (unhide HT) (by omega) (Nat.le_refl _) ?_
  · intro j u hu
    rw [List.getElem?_map] at hu
    obtain ⟨z, hz, rfl⟩ := Option.map_eq_some_iff.1 hu
    have hj := (List.getElem?_eq_some_iff.1 hz).1
    rw [addr_add, Nat.add_comm 1 j]
    have := unhide HG6 (j + 1) (by simp [zs] at hj ⊢; omega)
    rw [show (zs (x :: t)).getD (j + 1) 0 = z by rw [show zs (x :: t) = (x : Int) :: zs t from rfl, List.getD_cons_succ, List.getD_eq_getElem?_getD, hz]; rfl] at this
    exact this
  intro v2 w2 o2 f2 hsl
  obtain ⟨a2, c2, rfl⟩ := hsl
  have F2 := hide ((unhide F1).drew.trans f2.nil)
  obtain ⟨⟨r0, r1, r2, r3⟩, rz⟩ := resB (unhide F2)
  have hc2 : ∀ j, w2.cell? ⟨g, j, none⟩ = w1.cell? ⟨g, j, none⟩ := fun j => f2.cell g j hgz (fun e => by simp [own, Value.ownBlock] at e)
  have HC2 := hide hc2
  have O2 := hide o2
  have hd2 : w2.cell? ⟨g, 0, none⟩ = some (.int .i64 x) := (hc2 0).trans cz
  clear o2 f2 hc2
  refine hK.out _ _ hd2 (fun hHeld => ?_)
  clear hK K
  simp only [List.setIfInBounds_toArray, List.set_cons_zero, List.set_cons_succ]
  refine take_yes (i := 4) (d := 48) (v := ?_) (fuel := 7) rfl rfl (by kernel_rfl) (by kernel_rfl) (by kernel_rfl) (fun _ _ _ h => h) (by rfl) ?_ (by assumption) ?_
  rotate_left
  · intro w hSw; (try dsimp only at hSw); go_simp; try with_reducible rfl
  simp only [List.setIfInBounds_toArray, List.set_cons_zero, List.set_cons_succ]
  refine take_yes (i := 12) (d := 56) (v := ?_) (fuel := 6) rfl rfl (by kernel_rfl) (by kernel_rfl) (by kernel_rfl) (fun _ _ _ h => h) (by rfl) ?_ (by assumption) ?_
  rotate_left
  · intro w hSw; (try dsimp only at hSw); go_simp; try with_reducible rfl
  simp only [List.setIfInBounds_toArray, List.set_cons_zero, List.set_cons_succ]
  refine take_no (i := 13) (d := 57) (fuel := 5) rfl rfl (by kernel_rfl) (by kernel_rfl) (by kernel_rfl) (fun _ _ _ h => h) (by rfl) (by assumption) ?_
  simp only [List.setIfInBounds_toArray, List.set_cons_zero, List.set_cons_succ]
  refine take_no (i := 14) (d := 58) (fuel := 4) rfl rfl (by kernel_rfl) (by kernel_rfl) (by kernel_rfl) (fun _ _ _ h => h) (by rfl) (by assumption) ?_
  simp only [List.setIfInBounds_toArray, List.set_cons_zero, List.set_cons_succ]
  refine take_no (i := 15) (d := 59) (fuel := 3) rfl rfl (by kernel_rfl) (by kernel_rfl) (by kernel_rfl) (fun _ _ _ h => h) (by rfl) (by assumption) ?_
  simp only [List.setIfInBounds_toArray, List.set_cons_zero, List.set_cons_succ]
  refine take_yes (i := 16) (d := 60) (v := ?_) (fuel := 2) rfl rfl (by kernel_rfl) (by kernel_rfl) (by kernel_rfl) (fun _ _ _ h => h) (by rfl) ?_ (by assumption) ?_
  rotate_left
  · intro w hSw; (try dsimp only at hSw); go_simp; try with_reducible rfl
  simp only [List.setIfInBounds_toArray, List.set_cons_zero, List.set_cons_succ]
  refine wpAnyH_ready (rs := [17]) (by kernel_rfl) (by simp) ?_
  refine AllReadyH.cons rfl (fun K hK => ?_) AllReadyH.nil
  go_simp
  refine hK.out _ _ ?_ (fun hHeld => ?_)
  · simp [go_sem, hd2]
  clear hK K
  refine take_yes (i := 18) (d := 3) (v := ?_) (fuel := 0) rfl rfl (by kernel_rfl) (by kernel_rfl) (by kernel_rfl) (fun _ _ _ h => h) (by rfl) ?_ (by assumption) ?_
  rotate_left
  · intro w hSw; (try dsimp only at hSw); go_simp; try with_reducible rfl
  simp only [List.setIfInBounds_toArray, List.set_cons_zero, List.set_cons_succ]
  refine wpAnyH_done (by kernel_rfl) ?_ _
  go_wp2
  exact bodyPost_ret (v := .tuple #[.agg #[.int .i64 2, .int .i64 0, .int .i64 0, .slice a2 t.length c2], .bool false]) (by simp [results, Tryz.results101, go_sem, r0, r1, r2, r3]) rfl (in_none (by rw [unhide HM, if_neg (fun h => unhide HX h.1)]) (res_fr (unhide F2) _ _ _ _))

set_option maxHeartbeats 2000000 in
set_option maxRecDepth 20000 in
theorem input_batch_yes (b : ByteArray) (h0 : 0 < b.size) (hs : b.size ≤ 40) (w : World) (x : Nat) (t : List Nat) (hv : varsM (b.extract 1 b.size) = some (x :: t)) (hk : byteAt b 0 = 2) (ht : 0 < t.length) (hx : x = t.length) : Calls Tryz.prog 101 #[.string b] w (InPost b w) := by
  have hse : (b.extract 1 b.size).size = b.size - 1 := by simp [ByteArray.size_extract]
  have HM : Hid (inpM b = if x = t.length ∧ risL (-1) (zs t) = true then some (0, 0, t) else none) := hide (by unfold inpM; rw [hv, hk]; rfl)
  have hb0 : ((b[0]'h0).toNat : Int) = 2 := by rw [← byteAt_eq b 0 h0, hk]; rfl
  have HV := hide hv
  have HK := hide hk
  have HC := hide fun w => varints_any (b.extract 1 b.size) (by omega) w
  clear hv
  go_enter Tryz.func101, Tryz.ntmps101
  go_wp2_with (go_at_call 122; (refine (unhide HC _).mono ?_; rintro e w1 p1; obtain ⟨f1, hl1, v1, rfl, o1⟩ := vs_some p1 (unhide HV); have F1 := hide f1; obtain ⟨g, cap, cur, rfl, hg1, hg2, hg3, hg4, hg5, hg6⟩ := ownI_parts o1 (by simp [zs]); rw [zs_len] at hg3 ⊢; have hg7 : w.heap.size < g := (by simp at hg1; omega); have hne : w.heap.size ≠ g := (by omega); have HG6 := hide hg6; have hl2 : (x :: t).length = t.length + 1 := rfl; rw [hl2] at hg3 ⊢; have hl1' : t.length ≤ 100 := (by simp at hl1; omega); clear hg1 hg2 hg4 hg5 cur hl1 hk p1 f1 o1 hg6))
  have cz : w1.cell? ⟨g, 0, none⟩ = some (.int .i64 x) := unhide HG6 0 (by simp [zs])
  have hx1 : ((x : Int) == (t.length : Int)) = true := beq_iff_eq.2 (by omega)
  obtain ⟨r, hr⟩ : ∃ r, risL (-1) (zs t) = r := ⟨_, rfl⟩
  have HR := hide hr
  clear hr
  have hgz : g < w1.heap.size := by
    obtain ⟨o, ho, _⟩ := cells_of_cell cz; exact (Array.getElem?_eq_some_iff.1 ho).1
  have hc1 : ¬ cap = 1 := by omega
  have hi1 : (1 : Int) ≤ (t.length : Int) + 1 := by omega
  have hwr : IntKind.i64.wrap (t.length : Int) = t.length := by rw [IntKind.wrap_i64]; omega
  have hw1 : w.heap.size ≤ w1.heap.size := by omega
  have HT := hide ht
  have HX := hide hx
  have HL := hide (show t.length ≤ 100 by omega)
  clear ht hx hl2
  refine wp_region_held_drew (S := fun w' => w'.cell? ⟨g, 0, none⟩ = some (.int .i64 x)) (by kernel_rfl) ?_ (fun hHeld => ?_)
  · simp [go_sem, cz]
  refine take_yes (i := 0) (d := 44) (v := ?_) (fuel := 18) rfl rfl (by kernel_rfl) (by kernel_rfl) (by kernel_rfl) (fun _ _ _ h => h) (by rfl) ?_ (by assumption) ?_
  rotate_left
  · intro w hSw; (try dsimp only at hSw); go_simp; try with_reducible rfl
  simp only [List.setIfInBounds_toArray, List.set_cons_zero, List.set_cons_succ]
  refine take_yes (i := 1) (d := 45) (v := ?_) (fuel := 17) rfl rfl (by kernel_rfl) (by kernel_rfl) (by kernel_rfl) (fun _ _ _ h => h) (by rfl) ?_ (by assumption) ?_
  rotate_left
  · intro w hSw; (try dsimp only at hSw); go_simp; try with_reducible rfl
  simp only [List.setIfInBounds_toArray, List.set_cons_zero, List.set_cons_succ]
  refine take_yes (i := 2) (d := 46) (v := ?_) (fuel := 16) rfl rfl (by kernel_rfl) (by kernel_rfl) (by kernel_rfl) (fun _ _ _ h => h) (by rfl) ?_ (by assumption) ?_
  rotate_left
  · intro w hSw; (try dsimp only at hSw); go_simp; try with_reducible rfl
  simp only [List.setIfInBounds_toArray, List.set_cons_zero, List.set_cons_succ]
  refine take_yes (i := 5) (d := 49) (v := ?_) (fuel := 15) rfl rfl (by kernel_rfl) (by kernel_rfl) (by kernel_rfl) (fun _ _ _ h => h) (by rfl) ?_ (by assumption) ?_
  rotate_left
  · intro w hSw; (try dsimp only at hSw); go_simp; try with_reducible rfl
  simp only [List.setIfInBounds_toArray, List.set_cons_zero, List.set_cons_succ]
  refine take_yes (i := 6) (d := 50) (v := ?_) (fuel := 14) rfl rfl (by kernel_rfl) (by kernel_rfl) (by kernel_rfl) (fun _ _ _ h => h) (by rfl) ?_ (by assumption) ?_
  rotate_left
  · intro w hSw; (try dsimp only at hSw); go_simp; try with_reducible rfl
  simp only [List.setIfInBounds_toArray, List.set_cons_zero, List.set_cons_succ]
  refine take_yes (i := 7) (d := 51) (v := ?_) (fuel := 13) rfl rfl (by kernel_rfl) (by kernel_rfl) (by kernel_rfl) (fun _ _ _ h => h) (by rfl) ?_ (by assumption) ?_
  rotate_left
  · intro w hSw; (try dsimp only at hSw); go_simp; try with_reducible rfl
  simp only [List.setIfInBounds_toArray, List.set_cons_zero, List.set_cons_succ]
  refine take_yes (i := 8) (d := 52) (v := ?_) (fuel := 12) rfl rfl (by kernel_rfl) (by kernel_rfl) (by kernel_rfl) (fun _ _ _ h => h) (by rfl) ?_ (by assumption) ?_
  rotate_left
  · intro w hSw; (try dsimp only at hSw); go_simp; try with_reducible rfl
  simp only [List.setIfInBounds_toArray, List.set_cons_zero, List.set_cons_succ]
  refine take_yes (i := 9) (d := 53) (v := ?_) (fuel := 11) rfl rfl (by kernel_rfl) (by kernel_rfl) (by kernel_rfl) (fun _ _ _ h => h) (by rfl) ?_ (by assumption) ?_
  rotate_left
  · intro w hSw; (try dsimp only at hSw); go_simp; try with_reducible rfl
  simp only [List.setIfInBounds_toArray, List.set_cons_zero, List.set_cons_succ]
  refine take_yes (i := 10) (d := 54) (v := ?_) (fuel := 10) rfl rfl (by kernel_rfl) (by kernel_rfl) (by kernel_rfl) (fun _ _ _ h => h) (by rfl) ?_ (by assumption) ?_
  rotate_left
  · intro w hSw; (try dsimp only at hSw); go_simp; try with_reducible rfl
  simp only [List.setIfInBounds_toArray, List.set_cons_zero, List.set_cons_succ]
  refine take_yes (i := 11) (d := 55) (v := ?_) (fuel := 9) rfl rfl (by kernel_rfl) (by kernel_rfl) (by kernel_rfl) (fun _ _ _ h => h) (by rfl) ?_ (by assumption) ?_
  rotate_left
  · intro w hSw; (try dsimp only at hSw); go_simp; try with_reducible rfl
  simp only [List.setIfInBounds_toArray, List.set_cons_zero, List.set_cons_succ]
  refine wpAnyH_ready (rs := [3]) (by kernel_rfl) (by simp) ?_
  refine AllReadyH.cons rfl (fun K hK => ?_) AllReadyH.nil
  refine step_grow_at (d := 47) rfl elemI (by decide) (by decide) (v := .slice none 0 0) (n := 0) (m := t.length) (xs := []) (news := (zs t).map (Value.int .i64)) (B := w1.heap.size) (ad := ⟨g, 1, none⟩) (cap := cap - 1) rfl (.const (.slice none 0 0)) (.tmp 46) rfl rfl rfl (World.ownsRow_nil _ _ _ _) (by simp [zs]) ?_ (by simp [Value.oneCell']) (unhide HT) (by omega) (Nat.le_refl _) ?_
  · intro j u hu
    rw [List.getElem?_map] at hu
    obtain ⟨z, hz, rfl⟩ := Option.map_eq_some_iff.1 hu
    have hj := (List.getElem?_eq_some_iff.1 hz).1
    rw [addr_add, Nat.add_comm 1 j]
    have := unhide HG6 (j + 1) (by simp [zs] at hj ⊢; omega)
    rw [show (zs (x :: t)).getD (j + 1) 0 = z by rw [show zs (x :: t) = (x : Int) :: zs t from rfl, List.getD_cons_succ, List.getD_eq_getElem?_getD, hz]; rfl] at this
    exact this
  intro v2 w2 o2 f2 hsl
  obtain ⟨a2, c2, rfl⟩ := hsl
  have F2 := hide ((unhide F1).drew.trans f2.nil)
  obtain ⟨⟨r0, r1, r2, r3⟩, rz⟩ := resB (unhide F2)
  have hc2 : ∀ j, w2.cell? ⟨g, j, none⟩ = w1.cell? ⟨g, j, none⟩ := fun j => f2.cell g j hgz (fun e => by simp [own, Value.ownBlock] at e)
  have HC2 := hide hc2
  have O2 := hide o2
  have hd2 : w2.cell? ⟨g, 0, none⟩ = some (.int .i64 x) := (hc2 0).trans cz
  clear o2 f2 hc2
  refine hK.out _ _ hd2 (fun hHeld => ?_)
  clear hK K
  simp only [List.setIfInBounds_toArray, List.set_cons_zero, List.set_cons_succ]
  refine take_yes (i := 4) (d := 48) (v := ?_) (fuel := 7) rfl rfl (by kernel_rfl) (by kernel_rfl) (by kernel_rfl) (fun _ _ _ h => h) (by rfl) ?_ (by assumption) ?_
  rotate_left
  · intro w hSw; (try dsimp only at hSw); go_simp; try with_reducible rfl
  simp only [List.setIfInBounds_toArray, List.set_cons_zero, List.set_cons_succ]
  refine take_yes (i := 12) (d := 56) (v := ?_) (fuel := 6) rfl rfl (by kernel_rfl) (by kernel_rfl) (by kernel_rfl) (fun _ _ _ h => h) (by rfl) ?_ (by assumption) ?_
  rotate_left
  · intro w hSw; (try dsimp only at hSw); go_simp; try with_reducible rfl
  simp only [List.setIfInBounds_toArray, List.set_cons_zero, List.set_cons_succ]
  have h123 : Calls Tryz.prog 123 #[.slice (some ⟨g, 1, none⟩) t.length (cap - 1)] w2 fun e w' => e = .returned (.bool (risL (-1) (zs t))) ∧ w2 = w' := by
    have h := rising_any (w := w2) (v := .slice (some ⟨g, 1, none⟩) (zs t).length (cap - 1)) (l := zs t) (P := fun _ => True) ⟨_, _, rfl, .inr ⟨g, 1, rfl, trivial, fun i hi => ?_⟩⟩ (by rw [zs_len]; omega)
    · rw [zs_len] at h; exact h.mono fun e w' q => ⟨q.1, q.2.symm⟩
    · rw [unhide HC2, Nat.add_comm 1 i]
      have := unhide HG6 (i + 1) (by simp [zs] at hi ⊢; omega)
      rw [this]
      simp [zs]
  have H123 := hide h123
  clear h123
  refine take_yes (i := 13) (d := 57) (v := ?_) (fuel := 5) rfl rfl (by kernel_rfl) (by kernel_rfl) (by kernel_rfl) (fun _ _ _ h => h) (by rfl) ?_ (by assumption) ?_
  rotate_left
  · intro w hSw; (try dsimp only at hSw); go_simp; try with_reducible rfl
  simp only [List.setIfInBounds_toArray, List.set_cons_zero, List.set_cons_succ]
  refine take_yes (i := 14) (d := 58) (v := ?_) (fuel := 4) rfl rfl (by kernel_rfl) (by kernel_rfl) (by kernel_rfl) (fun _ _ _ h => h) (by rfl) ?_ (by assumption) ?_
  rotate_left
  · intro w hSw; (try dsimp only at hSw); go_simp; try with_reducible rfl
  simp only [List.setIfInBounds_toArray, List.set_cons_zero, List.set_cons_succ]
  refine wpAnyH_ready (rs := [15]) (by kernel_rfl) (by simp) ?_
  refine AllReadyH.cons rfl (fun K hK => ?_) AllReadyH.nil
  go_simp
  go_at_call 123
  refine (unhide H123).mono ?_
  rintro _ _ ⟨rfl, rfl⟩
  rw [unhide HR]
  refine hK.out _ _ hd2 (fun hHeld => ?_)
  clear hK K
  refine take_yes (i := 16) (d := 60) (v := ?_) (fuel := 2) rfl rfl (by kernel_rfl) (by kernel_rfl) (by kernel_rfl) (fun _ _ _ h => h) (by rfl) ?_ (by assumption) ?_
  rotate_left
  · intro w hSw; (try dsimp only at hSw); go_simp; try with_reducible rfl
  simp only [List.setIfInBounds_toArray, List.set_cons_zero, List.set_cons_succ]
  refine wpAnyH_ready (rs := [17]) (by kernel_rfl) (by simp) ?_
  refine AllReadyH.cons rfl (fun K hK => ?_) AllReadyH.nil
  go_simp
  refine hK.out _ _ ?_ (fun hHeld => ?_)
  · simp [go_sem, hd2]
  clear hK K
  refine take_yes (i := 18) (d := 3) (v := ?_) (fuel := 0) rfl rfl (by kernel_rfl) (by kernel_rfl) (by kernel_rfl) (fun _ _ _ h => h) (by rfl) ?_ (by assumption) ?_
  rotate_left
  · intro w hSw; (try dsimp only at hSw); go_simp; try with_reducible rfl
  simp only [List.setIfInBounds_toArray, List.set_cons_zero, List.set_cons_succ]
  refine wpAnyH_done (by kernel_rfl) ?_ _
  go_wp2
  refine bodyPost_ret (v := .tuple #[.agg #[.int .i64 2, .int .i64 0, .int .i64 0, .slice a2 t.length c2], .bool r]) (by simp [results, Tryz.results101, go_sem, r0, r1, r2, r3]) rfl ?_
  have hm := unhide HM
  rw [unhide HR] at hm
  cases r with
  | false => exact in_none (by rw [hm, if_neg (by simp)]) (res_fr (unhide F2) _ _ _ _)
  | true =>
    refine in_some (o := 0) (n := 0) (fs := t) (by rw [hm, if_pos ⟨unhide HX, rfl⟩]) (by rw [unhide HK]; rfl) rfl rfl ?_ (res_fr (unhide F2) _ _ _ _)
    have h2 := unhide O2
    rw [Nat.zero_add, List.nil_append] at h2
    refine ownsRow_of_block (w := w2) (ownsRow_low (show OwnI w2 w1.heap.size (.slice a2 t.length c2) (zs t) by unfold OwnI; rw [zs_len]; exact h2) hw1) (fun q hq => ?_)
    have hq' := (World.ownsRow.lt h2 q hq).1
    have hne' : q ≠ w.heap.size := by omega
    rw [Below.heap_setCell _ _ _ _ hne', Below.heap_setCell _ _ _ _ hne', Below.heap_setCell _ _ _ _ hne', Below.heap_setCell _ _ _ _ hne']

set_option maxHeartbeats 2000000 in
set_option maxRecDepth 20000 in
theorem input_batch_nil (b : ByteArray) (h0 : 0 < b.size) (hs : b.size ≤ 40) (w : World) (x : Nat) (hv : varsM (b.extract 1 b.size) = some [x]) (hk : byteAt b 0 = 2) : Calls Tryz.prog 101 #[.string b] w (InPost b w) := by
  have hse : (b.extract 1 b.size).size = b.size - 1 := by simp [ByteArray.size_extract]
  have HM : Hid (inpM b = if x = 0 then some (0, 0, []) else none) := hide (by
    unfold inpM; rw [hv, hk]
    show (if x = 0 ∧ risL (-1) (zs []) = true then some (0, 0, []) else none) = _
    by_cases e : x = 0
    · rw [if_pos ⟨e, rfl⟩, if_pos e]
    · rw [if_neg (fun h => e h.1), if_neg e])
  have hb0 : ((b[0]'h0).toNat : Int) = 2 := by rw [← byteAt_eq b 0 h0, hk]; rfl
  have HV := hide hv
  have HK := hide hk
  have HC := hide fun w => varints_any (b.extract 1 b.size) (by omega) w
  clear hv
  go_enter Tryz.func101, Tryz.ntmps101
  go_wp2_with (go_at_call 122; (refine (unhide HC _).mono ?_; rintro e w1 p1; obtain ⟨f1, hl1, v1, rfl, o1⟩ := vs_some p1 (unhide HV); have F1 := hide f1; obtain ⟨g, cap, cur, rfl, hg1, hg2, hg3, hg4, hg5, hg6⟩ := ownI_parts o1 (by simp [zs]); have cz := hg6 0 (by simp [zs]); simp only [zs, List.map_cons, List.map_nil, List.getD_cons_zero, List.length_cons, List.length_nil, Int.ofNat_eq_natCast] at cz hg3 ⊢; have hg7 : w.heap.size < g := (by simp at hg1; omega); have hne : w.heap.size ≠ g := (by omega); clear hg1 hg2 hg4 hg5 cur hl1 hk; obtain ⟨⟨r0, r1, r2, r3⟩, rz⟩ := resB f1; clear p1 f1 o1 hg6))
  obtain ⟨ad, had⟩ : ∃ ad : Addr, (if cap = 1 then some (⟨g, 0, none⟩ : Addr) else some ⟨g, 1, none⟩) = some ad := by split <;> exact ⟨_, rfl⟩
  have hw0 : IntKind.i64.wrap 0 = 0 := rfl
  by_cases hx : x = 0
  · subst hx
    have h123 : Calls Tryz.prog 123 #[.slice (some ad) 0 (cap - 1)] w1.drew fun e w' => e = .returned (.bool true) ∧ w1.drew = w' :=
      (rising_any (w := w1.drew) (v := .slice (some ad) 0 (cap - 1)) (l := []) (P := fun _ => True) ⟨_, _, rfl, .inl rfl⟩ (by simp)).mono fun e w' q => ⟨q.1, q.2.symm⟩
    have H123 := hide h123
    clear h123
    refine wp_region_held_drew (S := fun w' => w'.cell? ⟨g, 0, none⟩ = some (.int .i64 (0 : Nat))) (by kernel_rfl) ?_ (fun hHeld => ?_)
    · exact cz
    refine take_yes (i := 0) (d := 44) (v := ?_) (fuel := 18) rfl rfl (by kernel_rfl) (by kernel_rfl) (by kernel_rfl) (fun _ _ _ h => h) (by rfl) ?_ (by assumption) ?_
    rotate_left
    · intro w hSw; (try dsimp only at hSw); go_simp; try with_reducible rfl
    simp only [List.setIfInBounds_toArray, List.set_cons_zero, List.set_cons_succ]
    refine take_yes (i := 1) (d := 45) (v := ?_) (fuel := 17) rfl rfl (by kernel_rfl) (by kernel_rfl) (by kernel_rfl) (fun _ _ _ h => h) (by rfl) ?_ (by assumption) ?_
    rotate_left
    · intro w hSw; (try dsimp only at hSw); go_simp; try with_reducible rfl
    simp only [List.setIfInBounds_toArray, List.set_cons_zero, List.set_cons_succ]
    refine take_yes (i := 2) (d := 46) (v := ?_) (fuel := 16) rfl rfl (by kernel_rfl) (by kernel_rfl) (by kernel_rfl) (fun _ _ _ h => h) (by rfl) ?_ (by assumption) ?_
    rotate_left
    · intro w hSw; (try dsimp only at hSw); go_simp; try with_reducible rfl
    simp only [List.setIfInBounds_toArray, List.set_cons_zero, List.set_cons_succ]
    refine take_yes (i := 5) (d := 49) (v := ?_) (fuel := 15) rfl rfl (by kernel_rfl) (by kernel_rfl) (by kernel_rfl) (fun _ _ _ h => h) (by rfl) ?_ (by assumption) ?_
    rotate_left
    · intro w hSw; (try dsimp only at hSw); go_simp; try with_reducible rfl
    simp only [List.setIfInBounds_toArray, List.set_cons_zero, List.set_cons_succ]
    refine take_yes (i := 6) (d := 50) (v := ?_) (fuel := 14) rfl rfl (by kernel_rfl) (by kernel_rfl) (by kernel_rfl) (fun _ _ _ h => h) (by rfl) ?_ (by assumption) ?_
    rotate_left
    · intro w hSw; (try dsimp only at hSw); go_simp; try with_reducible rfl
    simp only [List.setIfInBounds_toArray, List.set_cons_zero, List.set_cons_succ]
    refine take_yes (i := 7) (d := 51) (v := ?_) (fuel := 13) rfl rfl (by kernel_rfl) (by kernel_rfl) (by kernel_rfl) (fun _ _ _ h => h) (by rfl) ?_ (by assumption) ?_
    rotate_left
    · intro w hSw; (try dsimp only at hSw); go_simp; try with_reducible rfl
    simp only [List.setIfInBounds_toArray, List.set_cons_zero, List.set_cons_succ]
    refine take_yes (i := 8) (d := 52) (v := ?_) (fuel := 12) rfl rfl (by kernel_rfl) (by kernel_rfl) (by kernel_rfl) (fun _ _ _ h => h) (by rfl) ?_ (by assumption) ?_
    rotate_left
    · intro w hSw; (try dsimp only at hSw); go_simp; try with_reducible rfl
    simp only [List.setIfInBounds_toArray, List.set_cons_zero, List.set_cons_succ]
    refine take_yes (i := 9) (d := 53) (v := ?_) (fuel := 11) rfl rfl (by kernel_rfl) (by kernel_rfl) (by kernel_rfl) (fun _ _ _ h => h) (by rfl) ?_ (by assumption) ?_
    rotate_left
    · intro w hSw; (try dsimp only at hSw); go_simp; try with_reducible rfl
    simp only [List.setIfInBounds_toArray, List.set_cons_zero, List.set_cons_succ]
    refine take_yes (i := 10) (d := 54) (v := ?_) (fuel := 10) rfl rfl (by kernel_rfl) (by kernel_rfl) (by kernel_rfl) (fun _ _ _ h => h) (by rfl) ?_ (by assumption) ?_
    rotate_left
    · intro w hSw; (try dsimp only at hSw); go_simp; try with_reducible rfl
    simp only [List.setIfInBounds_toArray, List.set_cons_zero, List.set_cons_succ]
    refine take_yes (i := 11) (d := 55) (v := ?_) (fuel := 9) rfl rfl (by kernel_rfl) (by kernel_rfl) (by kernel_rfl) (fun _ _ _ h => h) (by rfl) ?_ (by assumption) ?_
    rotate_left
    · intro w hSw; (try dsimp only at hSw); go_simp; try with_reducible rfl
    simp only [List.setIfInBounds_toArray, List.set_cons_zero, List.set_cons_succ]
    refine wpAnyH_ready (rs := [3]) (by kernel_rfl) (by simp) ?_
    refine AllReadyH.cons rfl (fun K hK => ?_) AllReadyH.nil
    go_simp
    refine hK.out _ _ hHeld (fun hHeld => ?_)
    clear hK K
    refine take_yes (i := 4) (d := 48) (v := ?_) (fuel := 7) rfl rfl (by kernel_rfl) (by kernel_rfl) (by kernel_rfl) (fun _ _ _ h => h) (by rfl) ?_ (by assumption) ?_
    rotate_left
    · intro w hSw; (try dsimp only at hSw); go_simp; try with_reducible rfl
    simp only [List.setIfInBounds_toArray, List.set_cons_zero, List.set_cons_succ]
    refine take_yes (i := 12) (d := 56) (v := ?_) (fuel := 6) rfl rfl (by kernel_rfl) (by kernel_rfl) (by kernel_rfl) (fun _ _ _ h => h) (by rfl) ?_ (by assumption) ?_
    rotate_left
    · intro w hSw; (try dsimp only at hSw); go_simp; try with_reducible rfl
    simp only [List.setIfInBounds_toArray, List.set_cons_zero, List.set_cons_succ]
    refine take_yes (i := 13) (d := 57) (v := ?_) (fuel := 5) rfl rfl (by kernel_rfl) (by kernel_rfl) (by kernel_rfl) (fun _ _ _ h => h) (by rfl) ?_ (by assumption) ?_
    rotate_left
    · intro w hSw; (try dsimp only at hSw); go_simp; try with_reducible rfl
    simp only [List.setIfInBounds_toArray, List.set_cons_zero, List.set_cons_succ]
    refine take_yes (i := 14) (d := 58) (v := ?_) (fuel := 4) rfl rfl (by kernel_rfl) (by kernel_rfl) (by kernel_rfl) (fun _ _ _ h => h) (by rfl) ?_ (by assumption) ?_
    rotate_left
    · intro w hSw; (try dsimp only at hSw); go_simp; try with_reducible rfl
    simp only [List.setIfInBounds_toArray, List.set_cons_zero, List.set_cons_succ]
    refine wpAnyH_ready (rs := [15]) (by kernel_rfl) (by simp) ?_
    refine AllReadyH.cons rfl (fun K hK => ?_) AllReadyH.nil
    go_simp
    go_at_call 123
    refine (unhide H123).mono ?_
    rintro _ _ ⟨rfl, rfl⟩
    refine hK.out _ _ hHeld (fun hHeld => ?_)
    clear hK K
    refine take_yes (i := 16) (d := 60) (v := ?_) (fuel := 2) rfl rfl (by kernel_rfl) (by kernel_rfl) (by kernel_rfl) (fun _ _ _ h => h) (by rfl) ?_ (by assumption) ?_
    rotate_left
    · intro w hSw; (try dsimp only at hSw); go_simp; try with_reducible rfl
    simp only [List.setIfInBounds_toArray, List.set_cons_zero, List.set_cons_succ]
    refine wpAnyH_ready (rs := [17]) (by kernel_rfl) (by simp) ?_
    refine AllReadyH.cons rfl (fun K hK => ?_) AllReadyH.nil
    go_simp
    refine hK.out _ _ ?_ (fun hHeld => ?_)
    · simp [go_sem, cz]
    clear hK K
    refine take_yes (i := 18) (d := 3) (v := ?_) (fuel := 0) rfl rfl (by kernel_rfl) (by kernel_rfl) (by kernel_rfl) (fun _ _ _ h => h) (by rfl) ?_ (by assumption) ?_
    rotate_left
    · intro w hSw; (try dsimp only at hSw); go_simp; try with_reducible rfl
    simp only [List.setIfInBounds_toArray, List.set_cons_zero, List.set_cons_succ]
    refine wpAnyH_done (by kernel_rfl) ?_ _
    go_wp2
    exact bodyPost_ret (v := .tuple #[.agg #[.int .i64 2, .int .i64 0, .int .i64 0, .slice none 0 0], .bool true]) (by simp [results, Tryz.results101, go_sem, r0, r1, r2, r3]) rfl (in_some (o := 0) (n := 0) (fs := []) (by rw [unhide HM]; exact if_pos trivial) (by rw [unhide HK]; rfl) rfl rfl (World.ownsRow_nil _ _ _ _) (res_fr (unhide F1) _ _ _ _).drew)
  · have hx1 : ((x : Int) == 0) = false := beq_eq_false_iff_ne.2 (by omega)
    have HX := hide hx
    refine wp_region_held_drew (S := fun w' => w'.cell? ⟨g, 0, none⟩ = some (.int .i64 x)) (by kernel_rfl) ?_ (fun hHeld => ?_)
    · simp [go_sem, cz]
    refine take_yes (i := 0) (d := 44) (v := ?_) (fuel := 18) rfl rfl (by kernel_rfl) (by kernel_rfl) (by kernel_rfl) (fun _ _ _ h => h) (by rfl) ?_ (by assumption) ?_
    rotate_left
    · intro w hSw; (try dsimp only at hSw); go_simp; try with_reducible rfl
    simp only [List.setIfInBounds_toArray, List.set_cons_zero, List.set_cons_succ]
    refine take_yes (i := 1) (d := 45) (v := ?_) (fuel := 17) rfl rfl (by kernel_rfl) (by kernel_rfl) (by kernel_rfl) (fun _ _ _ h => h) (by rfl) ?_ (by assumption) ?_
    rotate_left
    · intro w hSw; (try dsimp only at hSw); go_simp; try with_reducible rfl
    simp only [List.setIfInBounds_toArray, List.set_cons_zero, List.set_cons_succ]
    refine take_yes (i := 2) (d := 46) (v := ?_) (fuel := 16) rfl rfl (by kernel_rfl) (by kernel_rfl) (by kernel_rfl) (fun _ _ _ h => h) (by rfl) ?_ (by assumption) ?_
    rotate_left
    · intro w hSw; (try dsimp only at hSw); go_simp; try with_reducible rfl
    simp only [List.setIfInBounds_toArray, List.set_cons_zero, List.set_cons_succ]
    refine take_yes (i := 5) (d := 49) (v := ?_) (fuel := 15) rfl rfl (by kernel_rfl) (by kernel_rfl) (by kernel_rfl) (fun _ _ _ h => h) (by rfl) ?_ (by assumption) ?_
    rotate_left
    · intro w hSw; (try dsimp only at hSw); go_simp; try with_reducible rfl
    simp only [List.setIfInBounds_toArray, List.set_cons_zero, List.set_cons_succ]
    refine take_yes (i := 6) (d := 50) (v := ?_) (fuel := 14) rfl rfl (by kernel_rfl) (by kernel_rfl) (by kernel_rfl) (fun _ _ _ h => h) (by rfl) ?_ (by assumption) ?_
    rotate_left
    · intro w hSw; (try dsimp only at hSw); go_simp; try with_reducible rfl
    simp only [List.setIfInBounds_toArray, List.set_cons_zero, List.set_cons_succ]
    refine take_yes (i := 7) (d := 51) (v := ?_) (fuel := 13) rfl rfl (by kernel_rfl) (by kernel_rfl) (by kernel_rfl) (fun _ _ _ h => h) (by rfl) ?_ (by assumption) ?_
    rotate_left
    · intro w hSw; (try dsimp only at hSw); go_simp; try with_reducible rfl
    simp only [List.setIfInBounds_toArray, List.set_cons_zero, List.set_cons_succ]
    refine take_yes (i := 8) (d := 52) (v := ?_) (fuel := 12) rfl rfl (by kernel_rfl) (by kernel_rfl) (by kernel_rfl) (fun _ _ _ h => h) (by rfl) ?_ (by assumption) ?_
    rotate_left
    · intro w hSw; (try dsimp only at hSw); go_simp; try with_reducible rfl
    simp only [List.setIfInBounds_toArray, List.set_cons_zero, List.set_cons_succ]
    refine take_yes (i := 9) (d := 53) (v := ?_) (fuel := 11) rfl rfl (by kernel_rfl) (by kernel_rfl) (by kernel_rfl) (fun _ _ _ h => h) (by rfl) ?_ (by assumption) ?_
    rotate_left
    · intro w hSw; (try dsimp only at hSw); go_simp; try with_reducible rfl
    simp only [List.setIfInBounds_toArray, List.set_cons_zero, List.set_cons_succ]
    refine take_yes (i := 10) (d := 54) (v := ?_) (fuel := 10) rfl rfl (by kernel_rfl) (by kernel_rfl) (by kernel_rfl) (fun _ _ _ h => h) (by rfl) ?_ (by assumption) ?_
    rotate_left
    · intro w hSw; (try dsimp only at hSw); go_simp; try with_reducible rfl
    simp only [List.setIfInBounds_toArray, List.set_cons_zero, List.set_cons_succ]
    refine take_yes (i := 11) (d := 55) (v := ?_) (fuel := 9) rfl rfl (by kernel_rfl) (by kernel_rfl) (by kernel_rfl) (fun _ _ _ h => h) (by rfl) ?_ (by assumption) ?_
    rotate_left
    · intro w hSw; (try dsimp only at hSw); go_simp; try with_reducible rfl
    simp only [List.setIfInBounds_toArray, List.set_cons_zero, List.set_cons_succ]
    refine wpAnyH_ready (rs := [3]) (by kernel_rfl) (by simp) ?_
    refine AllReadyH.cons rfl (fun K hK => ?_) AllReadyH.nil
    go_simp
    refine hK.out _ _ hHeld (fun hHeld => ?_)
    clear hK K
    refine take_yes (i := 4) (d := 48) (v := ?_) (fuel := 7) rfl rfl (by kernel_rfl) (by kernel_rfl) (by kernel_rfl) (fun _ _ _ h => h) (by rfl) ?_ (by assumption) ?_
    rotate_left
    · intro w hSw; (try dsimp only at hSw); go_simp; try with_reducible rfl
    simp only [List.setIfInBounds_toArray, List.set_cons_zero, List.set_cons_succ]
    refine take_yes (i := 12) (d := 56) (v := ?_) (fuel := 6) rfl rfl (by kernel_rfl) (by kernel_rfl) (by kernel_rfl) (fun _ _ _ h => h) (by rfl) ?_ (by assumption) ?_
    rotate_left
    · intro w hSw; (try dsimp only at hSw); go_simp; try with_reducible rfl
    simp only [List.setIfInBounds_toArray, List.set_cons_zero, List.set_cons_succ]
    refine take_no (i := 13) (d := 57) (fuel := 5) rfl rfl (by kernel_rfl) (by kernel_rfl) (by kernel_rfl) (fun _ _ _ h => h) (by rfl) (by assumption) ?_
    simp only [List.setIfInBounds_toArray, List.set_cons_zero, List.set_cons_succ]
    refine take_no (i := 14) (d := 58) (fuel := 4) rfl rfl (by kernel_rfl) (by kernel_rfl) (by kernel_rfl) (fun _ _ _ h => h) (by rfl) (by assumption) ?_
    simp only [List.setIfInBounds_toArray, List.set_cons_zero, List.set_cons_succ]
    refine take_no (i := 15) (d := 59) (fuel := 3) rfl rfl (by kernel_rfl) (by kernel_rfl) (by kernel_rfl) (fun _ _ _ h => h) (by rfl) (by assumption) ?_
    simp only [List.setIfInBounds_toArray, List.set_cons_zero, List.set_cons_succ]
    refine take_yes (i := 16) (d := 60) (v := ?_) (fuel := 2) rfl rfl (by kernel_rfl) (by kernel_rfl) (by kernel_rfl) (fun _ _ _ h => h) (by rfl) ?_ (by assumption) ?_
    rotate_left
    · intro w hSw; (try dsimp only at hSw); go_simp; try with_reducible rfl
    simp only [List.setIfInBounds_toArray, List.set_cons_zero, List.set_cons_succ]
    refine wpAnyH_ready (rs := [17]) (by kernel_rfl) (by simp) ?_
    refine AllReadyH.cons rfl (fun K hK => ?_) AllReadyH.nil
    go_simp
    refine hK.out _ _ ?_ (fun hHeld => ?_)
    · simp [go_sem, cz]
    clear hK K
    refine take_yes (i := 18) (d := 3) (v := ?_) (fuel := 0) rfl rfl (by kernel_rfl) (by kernel_rfl) (by kernel_rfl) (fun _ _ _ h => h) (by rfl) ?_ (by assumption) ?_
    rotate_left
    · intro w hSw; (try dsimp only at hSw); go_simp; try with_reducible rfl
    simp only [List.setIfInBounds_toArray, List.set_cons_zero, List.set_cons_succ]
    refine wpAnyH_done (by kernel_rfl) ?_ _
    go_wp2
    exact bodyPost_ret (v := .tuple #[.agg #[.int .i64 2, .int .i64 0, .int .i64 0, .slice none 0 0], .bool false]) (by simp [results, Tryz.results101, go_sem, r0, r1, r2, r3]) rfl (in_none (by rw [unhide HM, if_neg (unhide HX)]) (res_fr (unhide F1) _ _ _ _).drew)

/-- The reader's input, at every body of 1 to 40 bytes. -/
theorem input_any (b : ByteArray) (h0 : 0 < b.size) (hs : b.size ≤ 40) (w : World) : Calls Tryz.prog 101 #[.string b] w (InPost b w) := by
  cases hv : varsM (b.extract 1 b.size) with
  | none => exact input_bad b h0 hs w hv
  | some ns =>
    by_cases hk : byteAt b 0 < 1 ∨ 5 < byteAt b 0
    · exact input_kind b h0 hs w ns hv hk
    by_cases hu : Unfit (byteAt b 0) ns.length
    · exact input_unfit b h0 hs w ns hv hu (by omega)
    have hk' : byteAt b 0 = 1 ∨ byteAt b 0 = 2 ∨ byteAt b 0 = 3 ∨ byteAt b 0 = 4 ∨ byteAt b 0 = 5 := by omega
    unfold Unfit at hu
    rcases hk' with e | e | e | e | e
    · match ns, hv, hu with
      | [x], hv, _ => exact input_clock b h0 hs w x hv e
      | [], _, hu => exact absurd (.inl ⟨e, by simp⟩) hu
      | _ :: _ :: _, _, hu => exact absurd (.inl ⟨e, by simp⟩) hu
    · match ns, hv, hu with
      | [x], hv, _ => exact input_batch_nil b h0 hs w x hv e
      | x :: y :: r, hv, _ =>
        by_cases hx : x = (y :: r).length
        · exact input_batch_yes b h0 hs w x (y :: r) hv e (by simp) hx
        · exact input_batch_no b h0 hs w x (y :: r) hv e (by simp) hx
      | [], _, hu => exact absurd (.inr (.inl ⟨e, by simp⟩)) hu
    · match ns, hv, hu with
      | [x, y], hv, _ =>
        by_cases hx : 2 ≤ x ∧ x ≤ 8
        · exact input_pick_in b h0 hs w x y hv e hx
        · exact input_pick_out b h0 hs w x y hv e hx
      | [], _, hu => exact absurd (.inr (.inr (.inl ⟨e, by simp⟩))) hu
      | [_], _, hu => exact absurd (.inr (.inr (.inl ⟨e, by simp⟩))) hu
      | _ :: _ :: _ :: _, _, hu => exact absurd (.inr (.inr (.inl ⟨e, by simp⟩))) hu
    · match ns, hv, hu with
      | [x, y], hv, _ =>
        by_cases hx : 1 ≤ x ∧ x ≤ 1000000
        · exact input_lot_in b h0 hs w x y hv e hx
        · exact input_lot_out b h0 hs w x y hv e hx
      | [], _, hu => exact absurd (.inr (.inr (.inr (.inl ⟨e, by simp⟩)))) hu
      | [_], _, hu => exact absurd (.inr (.inr (.inr (.inl ⟨e, by simp⟩)))) hu
      | _ :: _ :: _ :: _, _, hu => exact absurd (.inr (.inr (.inr (.inl ⟨e, by simp⟩)))) hu
    · match ns, hv, hu with
      | [x], hv, _ => exact input_end b h0 hs w x hv e
      | [], _, hu => exact absurd (.inr (.inr (.inr (.inr (.inl ⟨e, by simp⟩))))) hu
      | _ :: _ :: _, _, hu => exact absurd (.inr (.inr (.inr (.inr (.inl ⟨e, by simp⟩))))) hu
end Go.Proofs.YtfmbebofllgmoaaGreatDoor
