/-
  PROVED HERE: the keep statements' world, of a raw one. the keep statements' world, of a raw one: the walk. the keep statements' recorded run.
-/
import Derived.Test.YtfmbebofllgmoaaGreatDoorMkeepa
import Derived.Test.YtfmbebofllgmoaaGreatDoorMrec
import Derived.Test.YtfmbebofllgmoaaGreatDoorMsims
namespace Go.Proofs.YtfmbebofllgmoaaGreatDoor
open Go.RowKit
attribute [local go_sem ↓] Go.wp_at_zero Go.wp_at_succ

/-! ### What it is -/
def clkO (now z : Int) : Int := if z.tmod 17 = 0 ∧ z ≠ 0 then now - 1 else now + pickI z 9
def nowK (raw : List Int) : Nat → Int
  | 0 => 0
  | k + 1 => clkO (nowK raw k) (raw.getD k 0)
def ckK (raw : List Int) (k : Nat) : List Int := (List.range k).map fun i => nowK raw (i + 1)
theorem ckK_succ (raw : List Int) (k : Nat) : ckK raw (k + 1) = ckK raw k ++ [clkO (nowK raw k) (raw.getD k 0)] := by unfold ckK; rw [List.range_succ, List.map_append]; rfl
theorem ckK_len (raw : List Int) (k : Nat) : (ckK raw k).length = k := by simp [ckK]
theorem nowK_range (raw : List Int) : ∀ k : Nat, -(k : Int) ≤ nowK raw k ∧ nowK raw k ≤ 9 * (k : Int)
  | 0 => by simp [nowK]
  | k + 1 => by
    have := nowK_range raw k
    have := pickI_range (raw.getD k 0) 9 (by omega)
    simp only [nowK, clkO]
    split <;> omega
def btK (l : List Int) (k : Nat) : List Int := (List.range k).map fun i => pickI (l.getD i 0) 5
theorem btK_succ (l : List Int) (k : Nat) : btK l (k + 1) = btK l k ++ [pickI (l.getD k 0) 5] := by unfold btK; rw [List.range_succ, List.map_append]; rfl
theorem btK_len (l : List Int) (k : Nat) : (btK l k).length = k := by simp [btK]

/-! ### How it lies -/
abbrev Br := Value × List Int
structure C1 (w : World) (wb : Nat) (wr : World) (v0 p2 p3 : Value) (lc : List Int) : Prop where
  fr : Fr (fun _ => False) w wr (fun _ => False)
  wb_ : wr.heap[wb]? = some (.cells #[v0, .slice none 0 0, p2, p3] 29)
  wbB : w.heap.size ≤ wb
  cl : OwnI wr w.heap.size v0 lc
structure W1 (w : World) (wb : Nat) (wr : World) (v0 v1 p2 p3 : Value) (lc : List Int) (bt : List Br) : Prop where
  fr : Fr (fun _ => False) w wr (fun _ => False)
  wb_ : wr.heap[wb]? = some (.cells #[v0, v1, p2, p3] 29)
  wbB : w.heap.size ≤ wb
  cl : OwnI wr w.heap.size v0 lc
  bm : wr.ownsRow w.heap.size 26 1 v1 bt.length (bt.map (·.1))
  bh : ∀ b, b ∈ bt → OwnI wr w.heap.size b.1 b.2
theorem row_d {W : World} {B e size n : Nat} {v : Value} {xs : List Value} (h : W.ownsRow B e size v n xs) {q : Nat} (hq : own v q) : ∃ cur, W.heap[q]? = some (.cells cur e (0, 0)) := by
  rcases h.2 with ⟨rfl, _⟩ | ⟨g, cap, cur, rfl, _, hg, _⟩
  · simp [own, Value.ownBlock] at hq
  · simp only [own, Value.ownBlock, Option.some.injEq] at hq
    subst hq
    exact ⟨cur, hg⟩
section
variable {w wr : World} {wb : Nat} {v0 v1 p2 p3 : Value} {lc : List Int} {bt : List Br}
theorem C1.w1 (h : C1 w wb wr v0 p2 p3 lc) : W1 w wb wr v0 (.slice none 0 0) p2 p3 lc [] := ⟨h.fr, h.wb_, h.wbB, h.cl, World.ownsRow_nil _ _ _ _, fun _ h => absurd h (by simp)⟩
theorem C1.keep (h : C1 w wb wr v0 p2 p3 lc) {W : World} (hf : Fr (fun _ => False) wr W (fun _ => False)) : C1 w wb W v0 p2 p3 lc :=
  ⟨h.fr.trans hf, (hf.same _ (Array.getElem?_eq_some_iff.1 h.wb_).1 (fun h => h)).trans h.wb_, h.wbB, ownsRow_of_block h.cl (fun q hq => hf.same q (World.ownsRow.lt h.cl q hq).2 (fun h => h))⟩
theorem W1.keep (h : W1 w wb wr v0 v1 p2 p3 lc bt) {W : World} (hf : Fr (fun _ => False) wr W (fun _ => False)) : W1 w wb W v0 v1 p2 p3 lc bt := by
  have er : ∀ {B e size n v xs}, wr.ownsRow B e size v n xs → W.ownsRow B e size v n xs := fun hr => ownsRow_of_block hr (fun q hq => hf.same q (World.ownsRow.lt hr q hq).2 (fun h => h))
  exact ⟨h.fr.trans hf, (hf.same _ (Array.getElem?_eq_some_iff.1 h.wb_).1 (fun h => h)).trans h.wb_, h.wbB, er h.cl, er h.bm, fun b hb => er (h.bh b hb)⟩
theorem C1.pb (h : C1 w wb wr v0 p2 p3 lc) {W : World} {v' : Value} (hf : Fr (own v0) wr W (own v')) : W.heap[wb]? = some (.cells #[v0, .slice none 0 0, p2, p3] 29) :=
  (hf.same wb (Array.getElem?_eq_some_iff.1 h.wb_).1 (fun hq => by obtain ⟨c, hc⟩ := row_d h.cl hq; rw [h.wb_] at hc; cases hc)).trans h.wb_
theorem C1.grow (h : C1 w wb wr v0 p2 p3 lc) {W : World} {v' : Value} {lc' : List Int} (hr : OwnI W w.heap.size v' lc') (hf : Fr (own v0) wr W (own v')) : C1 w wb (W.setCell ⟨wb, 0, none⟩ v') v' p2 p3 lc' := by
  have pbW := h.pb hf
  refine ⟨(h.fr.fresh hf (fun k hk => (World.ownsRow.lt h.cl k hk).1)).setCell _ _ (.inr h.wbB), ?_, h.wbB, ?_⟩
  · have h0 := setRow_heap W wb _ (#[v0, .slice none 0 0, p2, p3].setIfInBounds 0 v') 29 (0, 0) pbW
    rwa [← setCell_eq_setRow W wb 0 _ 29 (0, 0) v' pbW] at h0
  · refine ownsRow_of_block hr (fun q hq => Below.heap_setCell _ _ _ _ (fun e => ?_))
    obtain ⟨c, hc⟩ := row_d hr hq
    have e' : q = wb := e
    rw [e', pbW] at hc; cases hc
theorem W1.pb (h : W1 w wb wr v0 v1 p2 p3 lc bt) {W : World} {v' : Value} (hf : Fr (own v1) wr W (own v')) : W.heap[wb]? = some (.cells #[v0, v1, p2, p3] 29) :=
  (hf.same wb (Array.getElem?_eq_some_iff.1 h.wb_).1 (fun hq => by obtain ⟨c, hc⟩ := row_d h.bm hq; rw [h.wb_] at hc; cases hc)).trans h.wb_
theorem W1.grow (h : W1 w wb wr v0 v1 p2 p3 lc bt) {W : World} {v' : Value} {b : Br} (hb : OwnI wr w.heap.size b.1 b.2) (hr : W.ownsRow w.heap.size 26 1 v' (bt.length + 1) (bt.map (·.1) ++ [b.1])) (hf : Fr (own v1) wr W (own v')) :
    W1 w wb (W.setCell ⟨wb, 1, none⟩ v') v0 v' p2 p3 lc (bt ++ [b]) := by
  have pbW := h.pb hf
  have er : ∀ {B size n v xs}, wr.ownsRow B 3 size v n xs → (W.setCell ⟨wb, 1, none⟩ v').ownsRow B 3 size v n xs := fun hr => ownsRow_of_block hr (fun q hq => by
    obtain ⟨c, hc⟩ := row_d hr hq
    have hne : q ≠ wb := fun e => by rw [e, h.wb_] at hc; cases hc
    exact (Below.heap_setCell _ _ _ _ hne).trans (hf.same q (Array.getElem?_eq_some_iff.1 hc).1 (fun hv => by obtain ⟨c', hc'⟩ := row_d h.bm hv; rw [hc] at hc'; cases hc')))
  refine ⟨(h.fr.fresh hf (fun k hk => (World.ownsRow.lt h.bm k hk).1)).setCell _ _ (.inr h.wbB), ?_, h.wbB, er h.cl, ?_, fun b' hb' => ?_⟩
  · have h0 := setRow_heap W wb _ (#[v0, v1, p2, p3].setIfInBounds 1 v') 29 (0, 0) pbW
    rwa [← setCell_eq_setRow W wb 1 _ 29 (0, 0) v' pbW] at h0
  · rw [List.length_append, List.map_append]
    refine ownsRow_of_block hr (fun q hq => Below.heap_setCell _ _ _ _ (fun e => ?_))
    obtain ⟨c, hc⟩ := row_d hr hq
    have e' : q = wb := e
    rw [e', pbW] at hc; cases hc
  · rcases List.mem_append.1 hb' with hb' | hb'
    · exact er (h.bh b' hb')
    · rw [List.mem_singleton.1 hb']; exact er hb
end
end Go.Proofs.YtfmbebofllgmoaaGreatDoor
namespace Go.Proofs.YtfmbebofllgmoaaGreatDoor
open Go.RowKit
attribute [local go_sem ↓] Go.wp_at_zero Go.wp_at_succ

def rng (l : List Int) : Prop := ∀ j, -9223372036854775808 ≤ l.getD j 0 ∧ l.getD j 0 ≤ 9223372036854775807
def CRel (w1 : World) (wb : Nat) (raw : List Int) (p2 p3 : Value) (u4 u5 : Value) (wr : World) : Prop := ∃ k : Nat, k ≤ min raw.length 60 ∧ u5 = .int .i64 k ∧ u4 = .int .i64 (nowK raw k) ∧ ∃ a c, C1 w1 wb wr (.slice a k c) p2 p3 (ckK raw k)
/-- What the world's batches are made of. -/
def btL (rb : List Br) (k : Nat) : List (List Int) := (List.range k).map fun i => btK (rb.getD i (.slice none 0 0, [])).2 (min (rb.getD i (.slice none 0 0, [])).2.length 6)
def BRel (w1 : World) (wb : Nat) (v0 p2 p3 : Value) (lc : List Int) (rb : List Br) (u6 : Value) (wr : World) : Prop := ∃ k : Nat, k ≤ min rb.length 60 ∧ u6 = .int .i64 k ∧ ∃ a c bt, W1 w1 wb wr v0 (.slice a k c) p2 p3 lc bt ∧ bt.map (·.2) = btL rb k
def IRel (w0 : World) (l : List Int) (u7 u8 : Value) (wr : World) : Prop := ∃ k : Nat, k ≤ min l.length 6 ∧ u8 = .int .i64 k ∧ ∃ a c, u7 = .slice a k c ∧ OwnI wr w0.heap.size (.slice a k c) (btK l k) ∧ Fr (fun _ => False) w0 wr (fun _ => False)

set_option maxHeartbeats 4000000 in
set_option maxRecDepth 20000 in
theorem kworld_any {w : World} {q0 q1 q2 q3 : Value} {raw : List Int} {rb : List Br} {P : Nat → Prop} (hP : ∀ q, P q → q < w.heap.size) (h0 : IntsIn w q0 raw P) (h1 : ValsIn w q1 (rb.map (·.1)) P) (hrb : ∀ b, b ∈ rb → IntsIn w b.1 b.2 P) (h2 : ∃ a l c, q2 = .slice a l c) (h3 : ∃ a l c, q3 = .slice a l c) (hr0 : rng raw) (hr1 : ∀ b, b ∈ rb → rng b.2) :
    Calls Tryz.prog 26 #[.agg #[q0, q1, q2, q3]] w fun e w' => ∃ v0 v1, ∃ bt : List Br, e = .returned (.agg #[v0, v1, q2, q3]) ∧ OwnI w' w.heap.size v0 (ckK raw (min raw.length 60)) ∧ w'.ownsRow w.heap.size 26 1 v1 bt.length (bt.map (·.1)) ∧ (∀ b : Br, b ∈ bt → OwnI w' w.heap.size b.1 b.2) ∧ bt.map (·.2) = btL rb (min rb.length 60) ∧ Fr (fun _ => False) w w' (fun _ => False) := by
  obtain ⟨ra, rc, rfl, hra⟩ := h0
  obtain ⟨ba, bc, rfl, hba⟩ := h1
  obtain ⟨a2, l2, c2, rfl⟩ := h2
  obtain ⟨a3, l3, c3, rfl⟩ := h3
  rw [List.length_map]
  have HRA := hide hra
  have HBA := hide hba
  have HP := hide hP
  have HRB := hide hrb
  have HR0 := hide hr0
  have HR1 := hide hr1
  clear hra hba hP hrb hr0 hr1
  go_enter Tryz.func26, Tryz.ntmps26
  go_wp2
  have hst : C1 ((w.alloc (.cells #[.slice ra raw.length rc, .slice ba rb.length bc, .slice a2 l2 c2, .slice a3 l3 c3] 29)).alloc (.cells #[.slice none 0 0, .slice none 0 0, .slice none 0 0, .slice none 0 0] 29)) (w.heap.size + 1 + 1) (((w.alloc (.cells #[.slice ra raw.length rc, .slice ba rb.length bc, .slice a2 l2 c2, .slice a3 l3 c3] 29)).alloc (.cells #[.slice none 0 0, .slice none 0 0, .slice none 0 0, .slice none 0 0] 29)).alloc (.cells #[.slice none 0 0, .slice none 0 0, .slice a2 l2 c2, .slice a3 l3 c3] 29)) (.slice none 0 0) (.slice a2 l2 c2) (.slice a3 l3 c3) [] := by
    refine ⟨(Fr.refl _ _).alloc _, ?_, by simp, World.ownsRow_nil _ _ _ _⟩
    have := heap_alloc_new ((w.alloc (.cells #[.slice ra raw.length rc, .slice ba rb.length bc, .slice a2 l2 c2, .slice a3 l3 c3] 29)).alloc (.cells #[.slice none 0 0, .slice none 0 0, .slice none 0 0, .slice none 0 0] 29)) (.cells #[.slice none 0 0, .slice none 0 0, .slice a2 l2 c2, .slice a3 l3 c3] 29)
    rwa [show ((w.alloc (.cells #[.slice ra raw.length rc, .slice ba rb.length bc, .slice a2 l2 c2, .slice a3 l3 c3] 29)).alloc (.cells #[.slice none 0 0, .slice none 0 0, .slice none 0 0, .slice none 0 0] 29)).heap.size = w.heap.size + 1 + 1 by simp] at this
  have hbox : ((w.alloc (.cells #[.slice ra raw.length rc, .slice ba rb.length bc, .slice a2 l2 c2, .slice a3 l3 c3] 29)).alloc (.cells #[.slice none 0 0, .slice none 0 0, .slice none 0 0, .slice none 0 0] 29)).heap[w.heap.size]? = some (.cells #[.slice ra raw.length rc, .slice ba rb.length bc, .slice a2 l2 c2, .slice a3 l3 c3] 29) := (Below.heap_alloc _ _ _ (by simp)).trans (heap_alloc_new _ _)
  have hres : ((w.alloc (.cells #[.slice ra raw.length rc, .slice ba rb.length bc, .slice a2 l2 c2, .slice a3 l3 c3] 29)).alloc (.cells #[.slice none 0 0, .slice none 0 0, .slice none 0 0, .slice none 0 0] 29)).heap[w.heap.size + 1]? = some (.cells #[.slice none 0 0, .slice none 0 0, .slice none 0 0, .slice none 0 0] 29) := by
    have := heap_alloc_new (w.alloc (.cells #[.slice ra raw.length rc, .slice ba rb.length bc, .slice a2 l2 c2, .slice a3 l3 c3] 29)) (.cells #[.slice none 0 0, .slice none 0 0, .slice none 0 0, .slice none 0 0] 29)
    rwa [show (w.alloc (.cells #[.slice ra raw.length rc, .slice ba rb.length bc, .slice a2 l2 c2, .slice a3 l3 c3] 29)).heap.size = w.heap.size + 1 by simp] at this
  have hfw : Fr (fun _ => False) w ((w.alloc (.cells #[.slice ra raw.length rc, .slice ba rb.length bc, .slice a2 l2 c2, .slice a3 l3 c3] 29)).alloc (.cells #[.slice none 0 0, .slice none 0 0, .slice none 0 0, .slice none 0 0] 29)) (fun _ => False) := ((Fr.refl _ _).alloc _).alloc _
  have hz2 : ((w.alloc (.cells #[.slice ra raw.length rc, .slice ba rb.length bc, .slice a2 l2 c2, .slice a3 l3 c3] 29)).alloc (.cells #[.slice none 0 0, .slice none 0 0, .slice none 0 0, .slice none 0 0] 29)).heap.size = w.heap.size + 2 := by simp
  generalize hw2 : ((w.alloc (.cells #[.slice ra raw.length rc, .slice ba rb.length bc, .slice a2 l2 c2, .slice a3 l3 c3] 29)).alloc (.cells #[.slice none 0 0, .slice none 0 0, .slice none 0 0, .slice none 0 0] 29)) = w2 at *
  have HST := hide hst
  have HBOX := hide hbox
  have HRES := hide hres
  have HFW := hide hfw
  have HZ2 := hide hz2
  clear hst hbox hres hfw hz2 hw2
  go_loopw [4, 5] (fun u4 u5 wr => CRel w2 (w.heap.size + 1 + 1) raw (.slice a2 l2 c2) (.slice a3 l3 c3) u4 u5 wr) (fun _ i _ => min raw.length 60 - (intOf i).toNat)
  case atStart => exact ⟨0, Nat.zero_le _, rfl, rfl, none, 0, unhide HST⟩
  case round =>
    obtain ⟨k, hk, rfl, rfl, av0, cv0, hc⟩ := hrel
    have hbx := (hc.fr.same w.heap.size (by have := unhide HZ2; omega) (fun h => h)).trans (unhide HBOX)
    have cb := fun j => cell_of_row wr _ j _ 29 (0, 0) hbx
    have cw := fun j => cell_of_row wr _ j _ 29 (0, 0) hc.wb_
    have HC := hide hc
    clear hbx hc
    go_upto_region 4 with fail
    go_cut [22] (fun b wc => b = .bool (decide (k < min raw.length 60)) ∧ wr = wc)
    case first =>
      by_cases h9 : (k : Int) < (raw.length : Int)
      · by_cases h8 : (k : Int) < 60
        · have e : decide (k < min raw.length 60) = true := by simp; omega
          go_wp2_with fail
          go_meet
          exact ⟨by rw [e], rfl⟩
        · have e : decide (k < min raw.length 60) = false := by simp; omega
          go_wp2_with fail
          go_meet
          exact ⟨by rw [e], rfl⟩
      · have e : decide (k < min raw.length 60) = false := by simp; omega
        go_wp2_with fail
        go_meet
        exact ⟨by rw [e], rfl⟩
    case rest =>
    obtain ⟨rfl, rfl⟩ := hcut
    by_cases hlt : k < min raw.length 60
    · have hde : decide (k < min raw.length 60) = true := by simpa using hlt
      rw [hde]
      rcases unhide HRA with hz | ⟨q, off, rfl, hq, hcell⟩
      · rw [hz] at hlt; simp at hlt
      have hql := unhide HP q hq
      have cz : wr.cell? ⟨q, off + k, none⟩ = some (.int .i64 (raw.getD k 0)) := (((unhide HFW).trans (unhide HC).fr).cell q (off + k) hql (fun h => h)).trans (hcell k (by omega))
      have H18 := hide (kpick_any (raw.getD k 0) 9 (by omega) (by omega) (unhide HR0 k))
      have hrg := pickI_range (raw.getD k 0) 9 (by omega)
      have hnr := nowK_range raw k
      have hnow0 : nowK raw (k + 1) = clkO (nowK raw k) (raw.getD k 0) := rfl
      unfold clkO at hnow0
      have hk0 : (0 : Int) ≤ (k : Int) := by omega
      have hk1 : (k : Int) < (raw.length : Int) := by omega
      have hwm : IntKind.i64.wrap (nowK raw k - 1) = nowK raw k - 1 := by rw [IntKind.wrap_i64]; omega
      have hwp : IntKind.i64.wrap (nowK raw k + pickI (raw.getD k 0) 9) = nowK raw k + pickI (raw.getD k 0) 9 := by rw [IntKind.wrap_i64]; omega
      generalize hz0 : raw.getD k 0 = z at *
      clear hrg hnr hcell
      by_cases h17 : z.tmod 17 = 0
      · have hb17 : (z.tmod 17 == 0) = true := by simpa using h17
        by_cases hzz : z = 0
        · have hzb : (z != 0) = false := by simpa using hzz
          rw [if_neg (fun h => h.2 hzz)] at hnow0
          have HNOW := hide hnow0
          have HZ0 := hide hz0
          clear hnow0 h17 hzz hz0
          go_wp2_with (first
            | (go_at_call 18; refine (unhide H18 _).mono ?_; rintro e w' ⟨rfl, rfl⟩)
            | (at_builtin; refine wpList_grow elemI (by omega) (by omega) (B := w2.heap.size) (n := (ckK raw k).length) (m := 1) (xs := (ckK raw k).map fun z => Value.int .i64 z) (news := [.int .i64 (nowK raw k + pickI z 9)]) rfl (.tmp 51) (.tmp 53) rfl (ad := ⟨w'.heap.size, 0, none⟩) (cap := 1) rfl rfl (((unhide HC).keep ((Fr.refl _ _).alloc _)).cl) rfl (World.news_of_block (heap_alloc_new w' _)) (by simp [Value.oneCell']) (by omega) (by rw [ckK_len]; omega) (by have := (unhide HC).fr.size; simp; omega) ?_; intro v3 w3 o3 f3 sh3; obtain ⟨av, cv, rfl⟩ := sh3; have pr := ((unhide HC).keep ((Fr.refl _ _).alloc _)).pb f3; have pc := fun j => cell_of_row w3 _ j _ 29 (0, 0) pr; have pz := fun j => frozen_rowE pr j; clear pr))
          go_roundw
          case rel =>
            have hnow : nowK raw (k + 1) = nowK raw k + pickI z 9 := unhide HNOW
            have hck : ckK raw (k + 1) = ckK raw k ++ [nowK raw k + pickI z 9] := by rw [ckK_succ, show clkO (nowK raw k) (raw.getD k 0) = nowK raw (k + 1) from rfl, hnow]
            have g := ((unhide HC).keep ((Fr.refl _ _).alloc (.cells #[.int .i64 (nowK raw k + pickI z 9)] 3))).grow (v' := .slice av ((ckK raw k).length + 1) cv) (lc' := ckK raw (k + 1)) (by unfold OwnI; rw [hck, List.length_append, List.map_append]; exact o3) f3
            have e5 : (ckK raw k).length = k := ckK_len raw k
            refine ⟨k + 1, by omega, by go_num, by rw [hnow], av, cv, ?_⟩
            rw [e5] at g ⊢
            exact g
          case measure => simp [intOf]; omega
        · have hzb : (z != 0) = true := by simpa using hzz
          rw [if_pos ⟨h17, hzz⟩] at hnow0
          have HNOW := hide hnow0
          have HZ0 := hide hz0
          clear hnow0 h17 hzz hz0
          go_wp2_with (first
            | (go_at_call 18; refine (unhide H18 _).mono ?_; rintro e w' ⟨rfl, rfl⟩)
            | (at_builtin; refine wpList_grow elemI (by omega) (by omega) (B := w2.heap.size) (n := (ckK raw k).length) (m := 1) (xs := (ckK raw k).map fun z => Value.int .i64 z) (news := [.int .i64 (nowK raw k - 1)]) rfl (.tmp 51) (.tmp 53) rfl (ad := ⟨wr.heap.size, 0, none⟩) (cap := 1) rfl rfl (((unhide HC).keep ((Fr.refl _ _).alloc _)).cl) rfl (World.news_of_block (heap_alloc_new wr _)) (by simp [Value.oneCell']) (by omega) (by rw [ckK_len]; omega) (by have := (unhide HC).fr.size; simp; omega) ?_; intro v3 w3 o3 f3 sh3; obtain ⟨av, cv, rfl⟩ := sh3; have pr := ((unhide HC).keep ((Fr.refl _ _).alloc _)).pb f3; have pc := fun j => cell_of_row w3 _ j _ 29 (0, 0) pr; have pz := fun j => frozen_rowE pr j; clear pr))
          go_roundw
          case rel =>
            have hnow : nowK raw (k + 1) = nowK raw k - 1 := unhide HNOW
            have hck : ckK raw (k + 1) = ckK raw k ++ [nowK raw k - 1] := by rw [ckK_succ, show clkO (nowK raw k) (raw.getD k 0) = nowK raw (k + 1) from rfl, hnow]
            have g := ((unhide HC).keep ((Fr.refl _ _).alloc (.cells #[.int .i64 (nowK raw k - 1)] 3))).grow (v' := .slice av ((ckK raw k).length + 1) cv) (lc' := ckK raw (k + 1)) (by unfold OwnI; rw [hck, List.length_append, List.map_append]; exact o3) f3
            have e5 : (ckK raw k).length = k := ckK_len raw k
            refine ⟨k + 1, by omega, by go_num, by rw [hnow], av, cv, ?_⟩
            rw [e5] at g ⊢
            exact g
          case measure => simp [intOf]; omega
      · have hb17 : (z.tmod 17 == 0) = false := by simpa using h17
        rw [if_neg (fun h => h17 h.1)] at hnow0
        have HNOW := hide hnow0
        have HZ0 := hide hz0
        clear hnow0 h17 hz0
        go_wp2_with (first
          | (go_at_call 18; refine (unhide H18 _).mono ?_; rintro e w' ⟨rfl, rfl⟩)
          | (at_builtin; refine wpList_grow elemI (by omega) (by omega) (B := w2.heap.size) (n := (ckK raw k).length) (m := 1) (xs := (ckK raw k).map fun z => Value.int .i64 z) (news := [.int .i64 (nowK raw k + pickI z 9)]) rfl (.tmp 51) (.tmp 53) rfl (ad := ⟨w'.heap.size, 0, none⟩) (cap := 1) rfl rfl (((unhide HC).keep ((Fr.refl _ _).alloc _)).cl) rfl (World.news_of_block (heap_alloc_new w' _)) (by simp [Value.oneCell']) (by omega) (by rw [ckK_len]; omega) (by have := (unhide HC).fr.size; simp; omega) ?_; intro v3 w3 o3 f3 sh3; obtain ⟨av, cv, rfl⟩ := sh3; have pr := ((unhide HC).keep ((Fr.refl _ _).alloc _)).pb f3; have pc := fun j => cell_of_row w3 _ j _ 29 (0, 0) pr; have pz := fun j => frozen_rowE pr j; clear pr))
        go_roundw
        case rel =>
          have hnow : nowK raw (k + 1) = nowK raw k + pickI z 9 := unhide HNOW
          have hck : ckK raw (k + 1) = ckK raw k ++ [nowK raw k + pickI z 9] := by rw [ckK_succ, show clkO (nowK raw k) (raw.getD k 0) = nowK raw (k + 1) from rfl, hnow]
          have g := ((unhide HC).keep ((Fr.refl _ _).alloc (.cells #[.int .i64 (nowK raw k + pickI z 9)] 3))).grow (v' := .slice av ((ckK raw k).length + 1) cv) (lc' := ckK raw (k + 1)) (by unfold OwnI; rw [hck, List.length_append, List.map_append]; exact o3) f3
          have e5 : (ckK raw k).length = k := ckK_len raw k
          refine ⟨k + 1, by omega, by go_num, by rw [hnow], av, cv, ?_⟩
          rw [e5] at g ⊢
          exact g
        case measure => simp [intOf]; omega
    · have hde : decide (k < min raw.length 60) = false := by simpa using hlt
      rw [hde]
      have hke : k = min raw.length 60 := by omega
      have HKE := hide hke
      have HW := hide (unhide HC).w1
      generalize hlc : ckK raw k = lc at *
      have HLC := hide hlc
      clear HC hke hlc hlt hde hk
      go_wp2_with fail
      go_loopw [6] (fun u6 wr => BRel w2 (w.heap.size + 1 + 1) (.slice av0 k cv0) (.slice a2 l2 c2) (.slice a3 l3 c3) lc rb u6 wr) (fun i _ => min rb.length 60 - (intOf i).toNat)
      case atStart => exact ⟨0, Nat.zero_le _, rfl, none, 0, [], unhide HW, rfl⟩
      case round =>
        obtain ⟨m, hm, rfl, ab, cbv, bt, hw, hbt⟩ := hrel
        have hbx := (hw.fr.same w.heap.size (by have := unhide HZ2; omega) (fun h => h)).trans (unhide HBOX)
        have cb2 := fun j => cell_of_row wr _ j _ 29 (0, 0) hbx
        have cw2 := fun j => cell_of_row wr _ j _ 29 (0, 0) hw.wb_
        have HB2 := hide hbx
        have HW2 := hide hw
        have HBT := hide hbt
        clear hbx hw hbt HW cb cw
        go_upto_region 11 with fail
        go_cut [64] (fun b wc => b = .bool (decide (m < min rb.length 60)) ∧ wr = wc)
        case first =>
          by_cases h9 : (m : Int) < (rb.length : Int)
          · by_cases h8 : (m : Int) < 60
            · have e : decide (m < min rb.length 60) = true := by simp; omega
              go_wp2_with fail
              go_meet
              exact ⟨by rw [e], rfl⟩
            · have e : decide (m < min rb.length 60) = false := by simp; omega
              go_wp2_with fail
              go_meet
              exact ⟨by rw [e], rfl⟩
          · have e : decide (m < min rb.length 60) = false := by simp; omega
            go_wp2_with fail
            go_meet
            exact ⟨by rw [e], rfl⟩
        case rest =>
        obtain ⟨rfl, rfl⟩ := hcut
        by_cases hlt : m < min rb.length 60
        · have hde : decide (m < min rb.length 60) = true := by simpa using hlt
          rw [hde]
          rcases unhide HBA with hz | ⟨q, off, rfl, hq, hcell⟩
          · have : rb.length = 0 := by simpa using congrArg List.length hz
            omega
          have hql := unhide HP q hq
          have hmem : rb.getD m (.slice none 0 0, []) ∈ rb := by rw [List.getD_eq_getElem?_getD, List.getElem?_eq_getElem (by omega)]; exact List.getElem_mem _
          have hval : (rb.map (·.1)).getD m undef = (rb.getD m (.slice none 0 0, [])).1 := by rw [List.getD_eq_getElem?_getD, List.getElem?_map, List.getD_eq_getElem?_getD, List.getElem?_eq_getElem (by omega)]; rfl
          have cz : wr.cell? ⟨q, off + m, none⟩ = some (rb.getD m (.slice none 0 0, [])).1 := (((unhide HFW).trans (unhide HW2).fr).cell q (off + m) hql (fun h => h)).trans ((hcell m (by simp; omega)).trans (by rw [hval]))
          obtain ⟨ia, ic, hiv, hic⟩ := unhide HRB _ hmem
          have hir := unhide HR1 _ hmem
          have hbl : btL rb (m + 1) = btL rb m ++ [btK (rb.getD m (.slice none 0 0, [])).2 (min (rb.getD m (.slice none 0 0, [])).2.length 6)] := by unfold btL; rw [List.range_succ, List.map_append]; rfl
          rw [hiv] at cz
          generalize (rb.getD m (.slice none 0 0, [])).2 = l at *
          have HIC := hide hic
          have HIR := hide hir
          have HBL := hide hbl
          have hm0 : (0 : Int) ≤ (m : Int) := by omega
          have hm1 : (m : Int) < (rb.length : Int) := by omega
          clear hcell hval hmem hiv hic hir hbl
          have CZ := hide cz
          go_wp2_with fail
          have hbd := (unhide HW2).fr.size
          go_loopw [7, 8] (fun u7 u8 wi => IRel wr l u7 u8 wi) (fun _ i _ => min l.length 6 - (intOf i).toNat)
          case atStart => exact ⟨0, Nat.zero_le _, rfl, none, 0, rfl, World.ownsRow_nil _ _ _ _, Fr.refl _ _⟩
          case round =>
            obtain ⟨j, hj, rfl, ua, uc, rfl, hrow, hfi⟩ := hrel
            have hbx := (hfi.same w.heap.size (by have := unhide HZ2; omega) (fun h => h)).trans (unhide HB2)
            have cb3 := fun j => cell_of_row wr _ j _ 29 (0, 0) hbx
            have cz3 := (hfi.cell q (off + m) (World.block_lt_of_cell? _ _ (unhide CZ)) (fun h => h)).trans (unhide CZ)
            have HROW := hide hrow
            have HFI := hide hfi
            clear hbx hrow hfi cb2 cw2 cz
            go_upto_region 15 with fail
            go_cut [78] (fun b wc => b = .bool (decide (j < min l.length 6)) ∧ wr = wc)
            case first =>
              by_cases h9 : (j : Int) < (l.length : Int)
              · by_cases h8 : (j : Int) < 6
                · have e : decide (j < min l.length 6) = true := by simp; omega
                  go_wp2_with fail
                  go_meet
                  exact ⟨by rw [e], rfl⟩
                · have e : decide (j < min l.length 6) = false := by simp; omega
                  go_wp2_with fail
                  go_meet
                  exact ⟨by rw [e], rfl⟩
              · have e : decide (j < min l.length 6) = false := by simp; omega
                go_wp2_with fail
                go_meet
                exact ⟨by rw [e], rfl⟩
            case rest =>
            obtain ⟨rfl, rfl⟩ := hcut
            by_cases hlt6 : j < min l.length 6
            · have hde : decide (j < min l.length 6) = true := by simpa using hlt6
              rw [hde]
              rcases unhide HIC with hz | ⟨q', off', rfl, hq', hcell⟩
              · rw [hz] at hlt6; simp at hlt6
              have cy : wr.cell? ⟨q', off' + j, none⟩ = some (.int .i64 (l.getD j 0)) := ((((unhide HFW).trans (unhide HW2).fr).trans (unhide HFI)).cell q' (off' + j) (unhide HP q' hq') (fun h => h)).trans (hcell j (by omega))
              have H18 := hide (kpick_any (l.getD j 0) 5 (by omega) (by omega) (unhide HIR j))
              have hbk := btK_succ l j
              generalize l.getD j 0 = z at *
              have HBK := hide hbk
              have hj0 : (0 : Int) ≤ (j : Int) := by omega
              have hj1 : (j : Int) < (l.length : Int) := by omega
              have hszi := (unhide HFI).size
              clear hcell hbk
              go_wp2_with (first
                | (go_at_call 18; refine (unhide H18 _).mono ?_; rintro e w' ⟨rfl, rfl⟩)
                | (at_builtin; refine wpList_grow elemI (by omega) (by omega) (n := (btK l j).length) (m := 1) (xs := (btK l j).map fun z => Value.int .i64 z) (news := [.int .i64 (pickI z 5)]) rfl (.tmp 81) (.tmp 91) rfl (ad := ⟨w'.heap.size, 0, none⟩) (cap := 1) rfl rfl ((unhide HROW).alloc _) rfl (World.news_of_block (heap_alloc_new w' _)) (by simp [Value.oneCell']) (by omega) (by rw [btK_len]; omega) (by simp; omega) ?_; intro v3 w3 o3 f3 sh3; obtain ⟨av, cv, rfl⟩ := sh3))
              go_roundw
              case rel =>
                have e5 : (btK l j).length = j := btK_len l j
                refine ⟨j + 1, by omega, by go_num, av, cv, by rw [e5], ?_, ?_⟩
                · unfold OwnI
                  rw [unhide HBK, List.length_append, List.map_append, ← show (btK l j).length + 1 = j + 1 by rw [e5]]
                  exact o3
                · exact (((unhide HFI).alloc _).fresh f3 (fun q hq => (World.ownsRow.lt (unhide HROW) q hq).1))
              case measure => simp [intOf]; omega
            · have hde : decide (j < min l.length 6) = false := by simpa using hlt6
              rw [hde]
              have hje : j = min l.length 6 := by omega
              have HJE := hide hje
              have hw9 := (unhide HW2).keep (unhide HFI)
              have cw3 := fun j => cell_of_row wr _ j _ 29 (0, 0) hw9.wb_
              have HBTL := hide (show bt.length = m by have := congrArg List.length (unhide HBT); simpa [btL] using this)
              have HW9 := hide hw9
              have HOW := hide (show OwnI wr w2.heap.size (.slice ua j uc) (btK l j) from ⟨(unhide HROW).1, (unhide HROW).2.imp id fun ⟨g, cap, cur, e1, e2, r⟩ => ⟨g, cap, cur, e1, by omega, r⟩⟩)
              clear hw9 hje hlt6 hde hj
              go_wp2_with (at_builtin; refine wpList_grow elemB (by omega) (by omega) (B := w2.heap.size) (n := bt.length) (m := 1) (xs := bt.map (·.1)) (news := [.slice ua j uc]) rfl (.tmp 94) (.tmp 96) rfl (ad := ⟨wr.heap.size, 0, none⟩) (cap := 1) rfl rfl (((unhide HW9).bm).alloc _) rfl (World.news_of_block (heap_alloc_new wr _)) (by simp [Value.oneCell']) (by omega) (by rw [unhide HBTL]; omega) (by have := (unhide HW9).fr.size; simp; omega) ?_; intro v3 w3 o3 f3 sh3; obtain ⟨av, cv, rfl⟩ := sh3; have pr := ((unhide HW9).keep ((Fr.refl _ _).alloc _)).pb f3; have pc := fun j => cell_of_row w3 _ j _ 29 (0, 0) pr; have pz := fun j => frozen_rowE pr j; clear pr)
              go_roundw
              case rel =>
                have g := ((unhide HW9).keep ((Fr.refl _ _).alloc (.cells #[.slice ua j uc] 26))).grow (b := (.slice ua j uc, btK l j)) ((unhide HOW).alloc _) o3 f3
                have e5 := unhide HBTL
                refine ⟨m + 1, by omega, by go_num, av, cv, bt ++ [(.slice ua j uc, btK l j)], ?_, ?_⟩
                · rw [e5] at g ⊢; exact g
                · rw [List.map_append, unhide HBT, unhide HBL, ← unhide HJE]; rfl
              case measure => simp [intOf]; omega
        · have hde : decide (m < min rb.length 60) = false := by simpa using hlt
          rw [hde]
          have hme : m = min rb.length 60 := by omega
          have hrs := ((unhide HW2).fr.same (w.heap.size + 1) (by have := unhide HZ2; omega) (fun h => h)).trans (unhide HRES)
          have zc := fun j => cell_of_row wr _ j _ 29 (0, 0) hrs
          have zz := fun j => frozen_rowE hrs j
          have HME := hide hme
          clear hrs hme hlt hde hm
          go_wp2
          have hz2 := unhide HZ2
          have hw9 := unhide HW2
          have keep : ∀ {e size n v xs}, wr.ownsRow w2.heap.size e size v n xs → ((((wr.setCell ⟨w.heap.size + 1, 0, none⟩ (.slice av0 k cv0)).setCell ⟨w.heap.size + 1, 1, none⟩ (.slice ab m cbv)).setCell ⟨w.heap.size + 1, 2, none⟩ (.slice a2 l2 c2)).setCell ⟨w.heap.size + 1, 3, none⟩ (.slice a3 l3 c3)).ownsRow w.heap.size e size v n xs := fun hr => by
            have h5 := ownsRow_of_block (w' := ((((wr.setCell ⟨w.heap.size + 1, 0, none⟩ (.slice av0 k cv0)).setCell ⟨w.heap.size + 1, 1, none⟩ (.slice ab m cbv)).setCell ⟨w.heap.size + 1, 2, none⟩ (.slice a2 l2 c2)).setCell ⟨w.heap.size + 1, 3, none⟩ (.slice a3 l3 c3))) hr (fun q hq => by
              have hq1 := (World.ownsRow.lt hr q hq).1
              have hne : q ≠ w.heap.size + 1 := by omega
              rw [Below.heap_setCell _ _ _ _ hne, Below.heap_setCell _ _ _ _ hne, Below.heap_setCell _ _ _ _ hne, Below.heap_setCell _ _ _ _ hne])
            exact ⟨h5.1, h5.2.imp id fun ⟨g, cap, cur, e1, e2, r⟩ => ⟨g, cap, cur, e1, by omega, r⟩⟩
          refine bodyPost_ret (v := .agg #[.slice av0 k cv0, .slice ab m cbv, .slice a2 l2 c2, .slice a3 l3 c3]) (by simp [results, Tryz.results26, go_sem, zc]) rfl ⟨_, _, bt, rfl, ?_, keep hw9.bm, fun b hb => keep (hw9.bh b hb), by rw [← unhide HME]; exact unhide HBT, ?_⟩
          · rw [← unhide HKE, unhide HLC]; exact keep hw9.cl
          · exact (((((unhide HFW).trans hw9.fr).setCell _ _ (.inr (by simp))).setCell _ _ (.inr (by simp))).setCell _ _ (.inr (by simp))).setCell _ _ (.inr (by simp))
end Go.Proofs.YtfmbebofllgmoaaGreatDoor
namespace Go.Proofs.YtfmbebofllgmoaaGreatDoor
open Go.RowKit
attribute [local go_sem ↓] Go.wp_at_zero Go.wp_at_succ

theorem ownLow {w : World} {B B' : Nat} {v : Value} {l : List Int} (h : OwnI w B v l) (hB : B' ≤ B) : OwnI w B' v l := rowLow h hB
theorem OwnI.alloc' {w : World} {B : Nat} {v : Value} {l : List Int} (h : OwnI w B v l) (o : Obj) : OwnI (w.alloc o) B v l := World.ownsRow.alloc h o
/-- Record of the program and the world that were made. -/
theorem recordK {wp W : World} {p1 p2 p3 v0 v1 q2 q3 : Value} {p : Pg} {lc lp ll : List Int} {bt : List Br} (hpg : PgAt wp (pvOf p1 p2 p3 undef) p) (ho : PgOk p) (hfr : Fr (fun _ => False) wp W (fun _ => False)) (htab : TabIn W)
    (h0 : OwnI W wp.heap.size v0 lc) (h1 : W.ownsRow wp.heap.size 26 1 v1 bt.length (bt.map (·.1))) (hb : ∀ b, b ∈ bt → OwnI W wp.heap.size b.1 b.2) (hbl : ∀ b, b ∈ bt → b.2.length ≤ 100000000) {P : Nat → Prop} (hP : ∀ q, P q → q < W.heap.size) (h2 : IntsIn W q2 lp P) (h3 : IntsIn W q3 ll P) (n0 : lc.length ≤ 4000000) (n1 : bt.length ≤ 4000000) (n2 : lp.length ≤ 4000000) (n3 : ll.length ≤ 4000000) (f : Int) :
    Calls Tryz.prog 22 #[.agg #[p1, p2, p3], .agg #[v0, v1, q2, q3], .int .i64 f] W fun e w' => Fr (fun _ => False) W w' (fun _ => False) ∧ ∃ vt, e = .returned (.tuple #[.string (recLog (recM p f lc bt lp ll)), vt, finV (recM p f lc bt lp ll).1, .int .i64 0]) ∧ w'.ownsRow W.heap.size 72 3 vt (recM p f lc bt lp ll).1.trace.length (flatE (recM p f lc bt lp ll).1.trace) := by
  have hall : ∀ {v l}, OwnI W wp.heap.size v l → IntsIn W v l (fun q => wp.heap.size ≤ q ∧ q < W.heap.size) := fun h => intsIn_kept (ownI_ints h) (fun _ _ => rfl) (fun q hq => hq.2)
  have hrow : ValsIn W v1 (bt.map (·.1)) (fun q => q < W.heap.size) := by
    by_cases h00 : bt.length = 0
    · obtain rfl := List.length_eq_zero_iff.1 h00
      rcases h1.2 with ⟨hv, _⟩ | ⟨g, cap, cur, hv, _⟩
      · exact ⟨none, 0, hv, .inl rfl⟩
      · exact ⟨_, cap, hv, .inl rfl⟩
    · obtain ⟨g, cap, hv, _, hg, hc⟩ := row_get h1 (by omega)
      refine ⟨_, cap, by rw [hv, List.length_map], .inr ⟨g, 0, rfl, hg, fun i hi => ?_⟩⟩
      have e : (bt.map (·.1))[i]? = some ((bt.map (·.1)).getD i undef) := by rw [List.getD_eq_getElem?_getD, List.getElem?_eq_getElem hi]; rfl
      exact hc i _ e
  refine (record_any (w := W) (w0 := wp) (hfr.below (B := wp.heap.size) (fun k hk => hk.elim) (Nat.le_refl _)) htab hpg f (P := fun q => q < W.heap.size) (L := fun q => wp.heap.size ≤ q ∧ q < W.heap.size) (fun q h => h) (fun q h => h)
    (intsIn_kept (hall h0) (fun _ _ => rfl) (fun q hq => hq.2)) hrow (intsIn_kept h2 (fun _ _ => rfl) hP) (intsIn_kept h3 (fun _ _ => rfl) hP) (fun b hb' => ⟨hall (hb b hb'), hbl b hb'⟩) n0 n1 n2 n3).mono ?_
  rintro e w' ⟨hf, x, hx, h | ⟨_, vt, he, hr⟩⟩
  · exact absurd (hx.one (ans_of_ok ho)) h.1
  · exact ⟨hf, vt, he, hr⟩
theorem btL_len (rb : List Br) (k : Nat) : (btL rb k).length = k := by simp [btL]
theorem btL_short (rb : List Br) (k : Nat) : ∀ l, l ∈ btL rb k → l.length ≤ 6 := by
  intro l hl
  obtain ⟨i, _, rfl⟩ := List.mem_map.1 hl
  rw [btK_len]; omega

set_option maxHeartbeats 4000000 in
set_option maxRecDepth 20000 in
theorem recorded_any {w : World} (htab : TabIn w) {v q0 q1 q2 q3 : Value} {N : Nat} {ln : Nat → Nat} {f : Nat → Nat → O3} (hH : HandsIn w v N ln f) (hin : ∀ i j, i < N → j < ln i → In3 (f i j)) {raw lp ll : List Int} {rb : List Br} {P : Nat → Prop} (hP : ∀ q, P q → q < w.heap.size) (h0 : IntsIn w q0 raw P) (h1 : ValsIn w q1 (rb.map (·.1)) P) (hrb : ∀ b, b ∈ rb → IntsIn w b.1 b.2 P) (h2 : IntsIn w q2 lp P) (h3 : IntsIn w q3 ll P) (hr0 : rng raw) (hr1 : ∀ b, b ∈ rb → rng b.2) (n2 : lp.length ≤ 4000000) (n3 : ll.length ≤ 4000000) (fuel : Int) (hfu : inR fuel) :
    Calls Tryz.prog 14 #[v, .agg #[q0, q1, q2, q3], .int .i64 fuel] w fun e w' => ∃ p1 p2 p3 vt, ∃ bt : List Br, e = .returned (.agg #[p1, p2, p3, .int .i64 (pickI fuel 400), .string (recLog (recM (pgK N ln f) (pickI fuel 400) (ckK raw (min raw.length 60)) bt lp ll)), vt,
        .int .i64 (recM (pgK N ln f) (pickI fuel 400) (ckK raw (min raw.length 60)) bt lp ll).1.fin, .int .i64 ((recM (pgK N ln f) (pickI fuel 400) (ckK raw (min raw.length 60)) bt lp ll).1.reg 0), .int .i64 ((recM (pgK N ln f) (pickI fuel 400) (ckK raw (min raw.length 60)) bt lp ll).1.reg 1), .int .i64 ((recM (pgK N ln f) (pickI fuel 400) (ckK raw (min raw.length 60)) bt lp ll).1.reg 2), .int .i64 ((recM (pgK N ln f) (pickI fuel 400) (ckK raw (min raw.length 60)) bt lp ll).1.reg 3), .int .i64 (recM (pgK N ln f) (pickI fuel 400) (ckK raw (min raw.length 60)) bt lp ll).1.clock, .int .i64 (recM (pgK N ln f) (pickI fuel 400) (ckK raw (min raw.length 60)) bt lp ll).1.heard, .bool true]) ∧
      bt.map (·.2) = btL rb (min rb.length 60) ∧ PgAt w' (pvOf p1 p2 p3 undef) (pgK N ln f) ∧ w'.ownsRow w.heap.size 72 3 vt (recM (pgK N ln f) (pickI fuel 400) (ckK raw (min raw.length 60)) bt lp ll).1.trace.length (flatE (recM (pgK N ln f) (pickI fuel 400) (ckK raw (min raw.length 60)) bt lp ll).1.trace) ∧ Fr (fun _ => False) w w' (fun _ => False) := by
  have hfw : Fr (fun _ => False) w ((w.alloc (.cells #[q0, q1, q2, q3] 29)).alloc (.cells #[.slice none 0 0, .slice none 0 0, .slice none 0 0, .int .i64 0, .string ⟨#[]⟩, .slice none 0 0, .int .i64 0, .int .i64 0, .int .i64 0, .int .i64 0, .int .i64 0, .int .i64 0, .int .i64 0, .bool false] 39)) (fun _ => False) := ((Fr.refl _ _).alloc _).alloc _
  have H21 := hide (kprogram_any (handsIn_below (hfw.below (B := w.heap.size) (fun k hk => hk.elim) (Nat.le_refl _)) hH) hin)
  obtain ⟨ha, hl, hc, rfl⟩ : ∃ a n c, v = .slice a n c := by obtain ⟨a, c, hv, _⟩ := hH; exact ⟨a, _, c, hv⟩
  have H18 := hide (fun w => kpick_any fuel 400 (by omega) (by omega) hfu w)
  have HTAB := hide htab
  have HHH := hide hH
  have HW0 := hide hfw
  have t0 : ((w.alloc (.cells #[q0, q1, q2, q3] 29)).alloc (.cells #[.slice none 0 0, .slice none 0 0, .slice none 0 0, .int .i64 0, .string ⟨#[]⟩, .slice none 0 0, .int .i64 0, .int .i64 0, .int .i64 0, .int .i64 0, .int .i64 0, .int .i64 0, .int .i64 0, .bool false] 39)).heap[w.heap.size]? = some (.cells #[q0, q1, q2, q3] 29) := (two_allocs w.heap _ _).1
  have t1 : ((w.alloc (.cells #[q0, q1, q2, q3] 29)).alloc (.cells #[.slice none 0 0, .slice none 0 0, .slice none 0 0, .int .i64 0, .string ⟨#[]⟩, .slice none 0 0, .int .i64 0, .int .i64 0, .int .i64 0, .int .i64 0, .int .i64 0, .int .i64 0, .int .i64 0, .bool false] 39)).heap[w.heap.size + 1]? = some (.cells #[.slice none 0 0, .slice none 0 0, .slice none 0 0, .int .i64 0, .string ⟨#[]⟩, .slice none 0 0, .int .i64 0, .int .i64 0, .int .i64 0, .int .i64 0, .int .i64 0, .int .i64 0, .int .i64 0, .bool false] 39) := (two_allocs w.heap _ _).2
  have hz1 : ((w.alloc (.cells #[q0, q1, q2, q3] 29)).alloc (.cells #[.slice none 0 0, .slice none 0 0, .slice none 0 0, .int .i64 0, .string ⟨#[]⟩, .slice none 0 0, .int .i64 0, .int .i64 0, .int .i64 0, .int .i64 0, .int .i64 0, .int .i64 0, .int .i64 0, .bool false] 39)).heap.size = w.heap.size + 2 := by simp
  have T0 := hide t0
  have T1 := hide t1
  have HZ1 := hide hz1
  clear hH htab hfw t0 t1 hz1
  go_enter Tryz.func14, Tryz.ntmps14
  go_wp2_with fail
  go_at_call 21
  refine (unhide H21).mono ?_
  rintro e w2 ⟨p1, p2, p3, rfl, hpgf, f2⟩
  have hpg := hpgf w2 (fun _ _ _ => rfl)
  have HPGF := hide hpgf
  clear hpgf
  have hs2 : w.heap.size + 2 ≤ w2.heap.size := by have := f2.size; have := unhide HZ1; omega
  have b0 := (f2.same w.heap.size (by have := unhide HZ1; omega) (fun h => h)).trans (unhide T0)
  have b1 := (f2.same (w.heap.size + 1) (by have := unhide HZ1; omega) (fun h => h)).trans (unhide T1)
  have hf2 := (unhide HW0).trans f2
  obtain ⟨s1a, s1c, e1, _⟩ := hpg.s
  obtain ⟨s2a, s2c, e2, _⟩ := hpg.t
  obtain ⟨s3a, s3c, e3, _⟩ := hpg.f
  change p1 = _ at e1
  change p2 = _ at e2
  change p3 = _ at e3
  subst e1 e2 e3
  have B0 := hide b0
  have B1 := hide b1
  have F2 := hide hf2
  have HPG := hide hpg
  have hfa : Fr (fun _ => False) w2 (w2.alloc (.cells #[.slice s1a (pgK N ln f).sn s1c, .slice s2a (pgK N ln f).tn s2c, .slice s3a (pgK N ln f).fn s3c, .int .i64 (pickI fuel 400), .string ⟨#[]⟩, .slice none 0 0, .int .i64 0, .int .i64 0, .int .i64 0, .int .i64 0, .int .i64 0, .int .i64 0, .int .i64 0, .bool false] 39)) (fun _ => False) := (Fr.refl _ _).alloc _
  have hbw := hfa.below (B := w2.heap.size) (fun k hk => hk.elim) (Nat.le_refl _)
  have hbt : Below w.heap.size w w2 := hf2.below (B := w.heap.size) (fun k hk => hk.elim) (Nat.le_refl _)
  have H25 := hide (check_any (.slice s1a (pgK N ln f).sn s1c) (.slice s2a (pgK N ln f).tn s2c) (.slice s3a (pgK N ln f).fn s3c) _ _ _ _ _ _ _ _ _ (tabIn_below hbw (tabIn_lt (tabIn_below hbt (tabIn_lt (unhide HTAB)) (unhide HTAB))) (tabIn_below hbt (tabIn_lt (unhide HTAB)) (unhide HTAB))) (opsIn_below hbw hpg.s) (handsIn_below hbw hpg.t) (handsIn_below hbw hpg.f))
  clear b0 b1 hf2 f2 hpg H21 hbw hbt hfa
  go_wp2_with (first
    | (go_at_call 18; refine (unhide H18 _).mono ?_; rintro e w' ⟨rfl, hww⟩; obtain rfl := hww.symm; clear hww)
    | (go_at_call 25; refine (unhide H25).mono ?_; rintro e w4 ⟨x, rfl, hx, hb4⟩; have HX := hide hx; have HB4 := hide hb4; clear hx hb4))
  rename_i K hK0
  have hx0 : x = 0 := (unhide HX).one (ans_of_ok (pgK_ok N ln f))
  subst hx0
  have f4 : Fr (fun _ => False) w2 w4 (fun _ => False) := (Fr.unalloc (Fr.of_below (unhide HB4)))
  have hl2 : w2.heap.size < w4.heap.size := by have := (unhide HB4).size; simp at this; omega
  have r7 : w4.heap[w2.heap.size]? = some (.cells #[.slice s1a (pgK N ln f).sn s1c, .slice s2a (pgK N ln f).tn s2c, .slice s3a (pgK N ln f).fn s3c, .int .i64 (pickI fuel 400), .string ⟨#[]⟩, .slice none 0 0, .int .i64 0, .int .i64 0, .int .i64 0, .int .i64 0, .int .i64 0, .int .i64 0, .int .i64 0, .bool false] 39) := ((unhide HB4).block w2.heap.size (by simp)).trans (heap_alloc_new _ _)
  have r0 := (f4.same w.heap.size (by omega) (fun h => h)).trans (unhide B0)
  have r1 := (f4.same (w.heap.size + 1) (by omega) (fun h => h)).trans (unhide B1)
  have hf4 := (unhide F2).trans f4
  have F24 := hide f4
  have R7 := hide r7
  have R0 := hide r0
  have R1 := hide r1
  have F4 := hide hf4
  have hdone : ∀ (g : Nat) (W : World) (vt v0 v1 : Value) (bt : List Br) (rm : PS × RS), rm = (recM (pgK N ln f) (pickI fuel 400) (ckK raw (min raw.length 60)) bt lp ll) → Fr (fun _ => False) w4 W (fun _ => False) → w4.heap.size ≤ g → W.heap[g]? = some (.cells #[.int .i64 (rm.1.fin), .int .i64 (rm.1.reg 0), .int .i64 (rm.1.reg 1), .int .i64 (rm.1.reg 2), .int .i64 (rm.1.reg 3), .int .i64 (rm.1.clock), .int .i64 (rm.1.heard)] 37) → (1 ≤ rm.1.fin ∧ rm.1.fin ≤ 5) → bt.map (·.2) = btL rb (min rb.length 60) → W.ownsRow w4.heap.size 72 3 vt rm.1.trace.length (flatE rm.1.trace) → K ⟨#[.slice ha hl hc, .agg #[q0, q1, q2, q3], .int .i64 fuel, undef, .pointer (some ⟨w.heap.size, 0, none⟩), undef, .pointer (some ⟨w.heap.size + 1, 0, none⟩), .pointer (some ⟨w2.heap.size, 0, none⟩), .int .i64 0, .string (recLog rm), vt, .pointer (some ⟨g, 0, none⟩), .int .i64 0, .slice ha hl hc, .agg #[.slice s1a (pgK N ln f).sn s1c, .slice s2a (pgK N ln f).tn s2c, .slice s3a (pgK N ln f).fn s3c], .int .i64 fuel, .int .i64 (pickI fuel 400), .agg #[.slice s1a (pgK N ln f).sn s1c, .slice s2a (pgK N ln f).tn s2c, .slice s3a (pgK N ln f).fn s3c, .int .i64 (pickI fuel 400), .string ⟨#[]⟩, .slice none 0 0, .int .i64 0, .int .i64 0, .int .i64 0, .int .i64 0, .int .i64 0, .int .i64 0, .int .i64 0, .bool false], .pointer (some ⟨w2.heap.size, 0, none⟩), .agg #[.slice s1a (pgK N ln f).sn s1c, .slice s2a (pgK N ln f).tn s2c, .slice s3a (pgK N ln f).fn s3c], .int .i64 0, .tuple #[.string (recLog rm), vt, .agg #[.int .i64 (rm.1.fin), .int .i64 (rm.1.reg 0), .int .i64 (rm.1.reg 1), .int .i64 (rm.1.reg 2), .int .i64 (rm.1.reg 3), .int .i64 (rm.1.clock), .int .i64 (rm.1.heard)], .int .i64 0], .pointer (some ⟨w2.heap.size, 0, none⟩), .agg #[.slice s1a (pgK N ln f).sn s1c, .slice s2a (pgK N ln f).tn s2c, .slice s3a (pgK N ln f).fn s3c], .agg #[q0, q1, q2, q3], .agg #[v0, v1, q2, q3], .pointer (some ⟨w2.heap.size, 3, none⟩), .int .i64 (pickI fuel 400), .tuple #[.string (recLog rm), vt, .agg #[.int .i64 (rm.1.fin), .int .i64 (rm.1.reg 0), .int .i64 (rm.1.reg 1), .int .i64 (rm.1.reg 2), .int .i64 (rm.1.reg 3), .int .i64 (rm.1.clock), .int .i64 (rm.1.heard)], .int .i64 0], .string (recLog rm), vt, .agg #[.int .i64 (rm.1.fin), .int .i64 (rm.1.reg 0), .int .i64 (rm.1.reg 1), .int .i64 (rm.1.reg 2), .int .i64 (rm.1.reg 3), .int .i64 (rm.1.clock), .int .i64 (rm.1.heard)], .int .i64 0, undef, undef, undef, undef, undef, undef, undef, undef, undef, undef, undef, undef, undef, undef, undef, undef, undef, undef, undef, undef, undef, undef, undef, undef], []⟩ W := by
    intro g W vt v0 v1 bt rm hrm hWf hg4 hgr hfin hbt htr
    obtain ⟨ta, tc, rfl⟩ : ∃ a c, vt = .slice a rm.1.trace.length c := by
      rcases htr.2 with ⟨h1, h0⟩ | ⟨g, cap, cur, hv, _⟩
      · exact ⟨none, 0, by rw [h0]; exact h1⟩
      · exact ⟨_, _, hv⟩
    obtain ⟨tl, htl⟩ : ∃ tl, rm.1.trace.length = tl := ⟨_, rfl⟩
    have HTL := hide htl
    rw [htl] at htr ⊢
    clear htl
    refine hK0 _ _ ?_
    clear hK0
    have u7 := (hWf.same _ hl2 (fun h => h)).trans (unhide R7)
    have u1 := (hWf.same (w.heap.size + 1) (by omega) (fun h => h)).trans (unhide R1)
    have c7 := fun j => cell_of_row W _ j _ 39 (0, 0) u7
    have z7 := fun j => frozen_rowE u7 j
    have c1 := fun j => cell_of_row W _ j _ 39 (0, 0) u1
    have z1 := fun j => frozen_rowE u1 j
    have cg := fun j => cell_of_row W _ j _ 37 (0, 0) hgr
    have i1 := hfin.1
    have i5 := hfin.2
    have ne1 : g ≠ w2.heap.size := by omega
    have ne2 : w.heap.size + 1 ≠ w2.heap.size := by omega
    have ne1' : ¬ w2.heap.size = g := by omega
    have ne2' : ¬ w2.heap.size = w.heap.size + 1 := by omega
    have HRM := hide hrm
    have HWF := hide hWf
    have HBT := hide hbt
    have HTR := hide htr
    clear hrm hWf hgr hfin hbt htr u7 u1
    go_wp2
    have oth : ∀ q, q ≠ w2.heap.size → q ≠ w.heap.size + 1 → ((((((((((((((((((((((((W.setCell ⟨w2.heap.size, 4, none⟩ (.string (recLog rm))).setCell ⟨w2.heap.size, 5, none⟩ (.slice ta tl tc)).setCell ⟨w2.heap.size, 6, none⟩ (.int .i64 (rm.1.fin))).setCell ⟨w2.heap.size, 7, none⟩ (.int .i64 (rm.1.reg 0))).setCell ⟨w2.heap.size, 8, none⟩ (.int .i64 (rm.1.reg 1))).setCell ⟨w2.heap.size, 9, none⟩ (.int .i64 (rm.1.reg 2))).setCell ⟨w2.heap.size, 10, none⟩ (.int .i64 (rm.1.reg 3))).setCell ⟨w2.heap.size, 11, none⟩ (.int .i64 (rm.1.clock))).setCell ⟨w2.heap.size, 12, none⟩ (.int .i64 (rm.1.heard))).setCell ⟨w2.heap.size, 13, none⟩ (.bool true)).setCell ⟨w.heap.size + 1, 0, none⟩ (.slice s1a (pgK N ln f).sn s1c)).setCell ⟨w.heap.size + 1, 1, none⟩ (.slice s2a (pgK N ln f).tn s2c)).setCell ⟨w.heap.size + 1, 2, none⟩ (.slice s3a (pgK N ln f).fn s3c)).setCell ⟨w.heap.size + 1, 3, none⟩ (.int .i64 (pickI fuel 400))).setCell ⟨w.heap.size + 1, 4, none⟩ (.string (recLog rm))).setCell ⟨w.heap.size + 1, 5, none⟩ (.slice ta tl tc)).setCell ⟨w.heap.size + 1, 6, none⟩ (.int .i64 (rm.1.fin))).setCell ⟨w.heap.size + 1, 7, none⟩ (.int .i64 (rm.1.reg 0))).setCell ⟨w.heap.size + 1, 8, none⟩ (.int .i64 (rm.1.reg 1))).setCell ⟨w.heap.size + 1, 9, none⟩ (.int .i64 (rm.1.reg 2))).setCell ⟨w.heap.size + 1, 10, none⟩ (.int .i64 (rm.1.reg 3))).setCell ⟨w.heap.size + 1, 11, none⟩ (.int .i64 (rm.1.clock))).setCell ⟨w.heap.size + 1, 12, none⟩ (.int .i64 (rm.1.heard))).setCell ⟨w.heap.size + 1, 13, none⟩ (.bool true)).heap[q]? = W.heap[q]? := fun q h1 h2 => by
      rw [Below.heap_setCell _ _ _ _ h2, Below.heap_setCell _ _ _ _ h2, Below.heap_setCell _ _ _ _ h2, Below.heap_setCell _ _ _ _ h2, Below.heap_setCell _ _ _ _ h2, Below.heap_setCell _ _ _ _ h2, Below.heap_setCell _ _ _ _ h2, Below.heap_setCell _ _ _ _ h2, Below.heap_setCell _ _ _ _ h2, Below.heap_setCell _ _ _ _ h2, Below.heap_setCell _ _ _ _ h2, Below.heap_setCell _ _ _ _ h2, Below.heap_setCell _ _ _ _ h2, Below.heap_setCell _ _ _ _ h2, Below.heap_setCell _ _ _ _ h1, Below.heap_setCell _ _ _ _ h1, Below.heap_setCell _ _ _ _ h1, Below.heap_setCell _ _ _ _ h1, Below.heap_setCell _ _ _ _ h1, Below.heap_setCell _ _ _ _ h1, Below.heap_setCell _ _ _ _ h1, Below.heap_setCell _ _ _ _ h1, Below.heap_setCell _ _ _ _ h1, Below.heap_setCell _ _ _ _ h1]
    have hz9 := unhide HZ1
    refine bodyPost_ret (v := .agg #[.slice s1a (pgK N ln f).sn s1c, .slice s2a (pgK N ln f).tn s2c, .slice s3a (pgK N ln f).fn s3c, .int .i64 (pickI fuel 400), .string (recLog rm), .slice ta tl tc, .int .i64 (rm.1.fin), .int .i64 (rm.1.reg 0), .int .i64 (rm.1.reg 1), .int .i64 (rm.1.reg 2), .int .i64 (rm.1.reg 3), .int .i64 (rm.1.clock), .int .i64 (rm.1.heard), .bool true]) (by simp [results, Tryz.results14, go_sem, c1]) rfl ⟨_, _, _, .slice ta tl tc, bt, by rw [← unhide HRM], unhide HBT, ?_, ?_, ?_⟩
    · refine unhide HPGF _ (fun q hq hql => ?_)
      rw [hz9] at hq
      exact (oth q (by omega) (by omega)).trans (((unhide HWF).same q (by omega) (fun h => h)).trans ((unhide F24).same q hql (fun h => h)))
    · rw [← unhide HRM]
      have ht := unhide HTR
      rw [unhide HTL] at *
      exact rowLow (ownsRow_of_block ht (fun q hq => by have := (World.ownsRow.lt ht q hq).1; exact oth q (by omega) (by omega))) (by omega)
    · have hfe := (unhide F4).trans (unhide HWF)
      iterate 14 refine Fr.setCell ?_ _ _ (.inr (Nat.le_succ _))
      iterate 10 refine Fr.setCell ?_ _ _ (.inr (Nat.le_trans (Nat.le_add_right _ 2) hs2))
      exact hfe
  have h26 : ∀ W : World, Fr (fun _ => False) w W (fun _ => False) → Calls Tryz.prog 26 #[.agg #[q0, q1, q2, q3]] W fun e w' => ∃ v0 v1, ∃ bt : List Br, e = .returned (.agg #[v0, v1, q2, q3]) ∧ OwnI w' W.heap.size v0 (ckK raw (min raw.length 60)) ∧ w'.ownsRow W.heap.size 26 1 v1 bt.length (bt.map (·.1)) ∧ (∀ b : Br, b ∈ bt → OwnI w' W.heap.size b.1 b.2) ∧ bt.map (·.2) = btL rb (min rb.length 60) ∧ Fr (fun _ => False) W w' (fun _ => False) := fun W hf => by
    have pr : ∀ q, P q → W.heap[q]? = w.heap[q]? := fun q hq => hf.same q (hP q hq) (fun h => h)
    refine kworld_any (P := P) (fun q hq => Nat.lt_of_lt_of_le (hP q hq) hf.size) (h0.block pr) (h1.block pr) (fun b hb => (hrb b hb).block pr) ?_ ?_ hr0 hr1
    · obtain ⟨a, c, hv, _⟩ := h2; exact ⟨_, _, _, hv⟩
    · obtain ⟨a, c, hv, _⟩ := h3; exact ⟨_, _, _, hv⟩
  have h22 : ∀ (Y : World) (v0 v1 : Value) (bt : List Br), Fr (fun _ => False) w2 Y (fun _ => False) → OwnI Y w2.heap.size v0 (ckK raw (min raw.length 60)) → Y.ownsRow w2.heap.size 26 1 v1 bt.length (bt.map (·.1)) → (∀ b : Br, b ∈ bt → OwnI Y w2.heap.size b.1 b.2) → bt.map (·.2) = btL rb (min rb.length 60) →
      Calls Tryz.prog 22 #[.agg #[.slice s1a (pgK N ln f).sn s1c, .slice s2a (pgK N ln f).tn s2c, .slice s3a (pgK N ln f).fn s3c], .agg #[v0, v1, q2, q3], .int .i64 (pickI fuel 400)] Y fun e w' => ∃ (rm : PS × RS) (vt : Value), rm = (recM (pgK N ln f) (pickI fuel 400) (ckK raw (min raw.length 60)) bt lp ll) ∧ e = .returned (.tuple #[.string (recLog rm), vt, .agg #[.int .i64 (rm.1.fin), .int .i64 (rm.1.reg 0), .int .i64 (rm.1.reg 1), .int .i64 (rm.1.reg 2), .int .i64 (rm.1.reg 3), .int .i64 (rm.1.clock), .int .i64 (rm.1.heard)], .int .i64 0]) ∧ (1 ≤ rm.1.fin ∧ rm.1.fin ≤ 5) ∧ w'.ownsRow Y.heap.size 72 3 vt rm.1.trace.length (flatE rm.1.trace) ∧ Fr (fun _ => False) Y w' (fun _ => False) := fun Y v0 v1 bt hf o0 o1 o2 hbt => by
    have hwY := (unhide F2).trans hf
    have hbY : Below w.heap.size w Y := hwY.below (B := w.heap.size) (fun k hk => hk.elim) (Nat.le_refl _)
    have pr : ∀ q, P q → Y.heap[q]? = w.heap[q]? := fun q hq => hwY.same q (hP q hq) (fun h => h)
    have hbl : bt.length = min rb.length 60 := by have := congrArg List.length hbt; rw [List.length_map, btL_len] at this; exact this
    have hcl := ckK_len raw (min raw.length 60)
    obtain ⟨xs, hrun, _⟩ := rec_run (pgK_ok N ln f) (pickI fuel 400) (ckK raw (min raw.length 60)) bt lp ll (by rw [hcl, hbl]; omega)
    refine (recordK (unhide HPG) (pgK_ok N ln f) hf (tabIn_below hbY (tabIn_lt (unhide HTAB)) (unhide HTAB)) o0 o1 o2 (fun b hb => ?_) (P := P) (fun q hq => Nat.lt_of_lt_of_le (hP q hq) hwY.size) (h2.block pr) (h3.block pr) (by omega) (by omega) n2 n3 (pickI fuel 400)).mono ?_
    · have := btL_short rb (min rb.length 60) b.2 (by rw [← hbt]; exact List.mem_map_of_mem hb); omega
    · rintro e w' ⟨hf', vt, rfl, hr⟩
      exact ⟨_, vt, rfl, rfl, hrun.fin, hr, hf'⟩
  have hSS : ∀ W : World, Fr (fun _ => False) w4 W (fun _ => False) → (W.cell? ⟨w2.heap.size, 0, none⟩ = some (.slice s1a (pgK N ln f).sn s1c) ∧ W.cell? ⟨w2.heap.size, 1, none⟩ = some (.slice s2a (pgK N ln f).tn s2c) ∧ W.cell? ⟨w2.heap.size, 2, none⟩ = some (.slice s3a (pgK N ln f).fn s3c) ∧ W.cell? ⟨w2.heap.size, 3, none⟩ = some (.int .i64 (pickI fuel 400))) ∧ (W.cell? ⟨w.heap.size, 0, none⟩ = some q0 ∧ W.cell? ⟨w.heap.size, 1, none⟩ = some q1 ∧ W.cell? ⟨w.heap.size, 2, none⟩ = some q2 ∧ W.cell? ⟨w.heap.size, 3, none⟩ = some q3) := fun W hf => by
    have u7 := (hf.same _ hl2 (fun h => h)).trans (unhide R7)
    have u0 := (hf.same w.heap.size (by omega) (fun h => h)).trans (unhide R0)
    exact ⟨⟨cell_of_row W _ 0 _ 39 (0, 0) u7, cell_of_row W _ 1 _ 39 (0, 0) u7, cell_of_row W _ 2 _ 39 (0, 0) u7, cell_of_row W _ 3 _ 39 (0, 0) u7⟩, cell_of_row W _ 0 _ 29 (0, 0) u0, cell_of_row W _ 1 _ 29 (0, 0) u0, cell_of_row W _ 2 _ 29 (0, 0) u0, cell_of_row W _ 3 _ 29 (0, 0) u0⟩
  have H26 := hide h26
  have H22 := hide h22
  have HSS := hide hSS
  have HDONE := hide hdone
  have hd4 : Fr (fun _ => False) w4 w4.drew (fun _ => False) := (Fr.refl _ _).drew
  have HD4 := hide hd4
  clear h26 h22 hSS hdone hd4 r7 r0 r1 hf4 f4 hK0
  refine wp_region_held_drew (S := fun W => (W.cell? ⟨w2.heap.size, 0, none⟩ = some (.slice s1a (pgK N ln f).sn s1c) ∧ W.cell? ⟨w2.heap.size, 1, none⟩ = some (.slice s2a (pgK N ln f).tn s2c) ∧ W.cell? ⟨w2.heap.size, 2, none⟩ = some (.slice s3a (pgK N ln f).fn s3c) ∧ W.cell? ⟨w2.heap.size, 3, none⟩ = some (.int .i64 (pickI fuel 400))) ∧ (W.cell? ⟨w.heap.size, 0, none⟩ = some q0 ∧ W.cell? ⟨w.heap.size, 1, none⟩ = some q1 ∧ W.cell? ⟨w.heap.size, 2, none⟩ = some q2 ∧ W.cell? ⟨w.heap.size, 3, none⟩ = some q3)) (by kernel_rfl) ?_ (fun hHeld => ?_)
  · exact unhide HSS _ (unhide HD4)
  refine take_yes (i := 0) (d := 22) (v := ?_) (fuel := 16) rfl rfl (by kernel_rfl) (by kernel_rfl) (by kernel_rfl) (fun _ _ _ h => h) (by rfl) ?_ (by assumption) ?_
  rotate_left
  · intro w hSw; (try dsimp only at hSw); go_simp; try with_reducible rfl
  simp only [List.setIfInBounds_toArray, List.set_cons_zero, List.set_cons_succ]
  refine take_yes (i := 1) (d := 23) (v := ?_) (fuel := 15) rfl rfl (by kernel_rfl) (by kernel_rfl) (by kernel_rfl) (fun _ _ _ h => h) (by rfl) ?_ (by assumption) ?_
  rotate_left
  · intro w hSw; (try dsimp only at hSw); go_simp; try with_reducible rfl
  simp only [List.setIfInBounds_toArray, List.set_cons_zero, List.set_cons_succ]
  refine take_yes (i := 2) (d := 24) (v := ?_) (fuel := 14) rfl rfl (by kernel_rfl) (by kernel_rfl) (by kernel_rfl) (fun _ _ _ h => h) (by rfl) ?_ (by assumption) ?_
  rotate_left
  · intro w hSw; (try dsimp only at hSw); go_simp; try with_reducible rfl
  simp only [List.setIfInBounds_toArray, List.set_cons_zero, List.set_cons_succ]
  refine take_yes (i := 4) (d := 26) (v := ?_) (fuel := 13) rfl rfl (by kernel_rfl) (by kernel_rfl) (by kernel_rfl) (fun _ _ _ h => h) (by rfl) ?_ (by assumption) ?_
  rotate_left
  · intro w hSw; (try dsimp only at hSw); go_simp; try with_reducible rfl
  simp only [List.setIfInBounds_toArray, List.set_cons_zero, List.set_cons_succ]
  refine take_yes (i := 5) (d := 27) (v := ?_) (fuel := 12) rfl rfl (by kernel_rfl) (by kernel_rfl) (by kernel_rfl) (fun _ _ _ h => h) (by rfl) ?_ (by assumption) ?_
  rotate_left
  · intro w hSw; (try dsimp only at hSw); go_simp; try with_reducible rfl
  simp only [List.setIfInBounds_toArray, List.set_cons_zero, List.set_cons_succ]
  refine wpAnyH_ready (rs := [3, 12]) (by kernel_rfl) (by simp) ?_
  refine (AllReadyH.cons rfl (fun K' hK' => ?_) (AllReadyH.cons rfl (fun K' hK' => ?_) AllReadyH.nil))
  · have hle : w2.heap.size ≤ w4.heap.size := Nat.le_of_lt hl2
    go_simp
    go_at_call 26
    refine (unhide H26 _ ((unhide F4).drew)).mono ?_
    rintro _ w5 ⟨v0, v1, bt, rfl, o0, o1, o2, hbt, f5⟩
    have F5 := hide ((unhide HD4).trans f5)
    have FF5 := hide f5
    have O0 := hide o0
    have O1 := hide o1
    have O2 := hide o2
    have HBT := hide hbt
    clear o0 o1 o2 hbt f5
    refine hK'.out _ _ (unhide HSS _ (unhide F5)) (fun hHeld => ?_)
    clear hK' K'
    try simp only [List.setIfInBounds_toArray, List.set_cons_zero, List.set_cons_succ]
    refine wpAnyH_ready (rs := [6, 12]) (by kernel_rfl) (by simp) ?_
    refine (AllReadyH.cons rfl (fun K' hK' => ?_) (AllReadyH.cons rfl (fun K' hK' => ?_) AllReadyH.nil))
    · go_simp
      go_at_call 22
      refine (unhide H22 _ v0 v1 bt ((unhide F24).trans (unhide F5)) (ownLow (unhide O0) hle) (rowLow (unhide O1) hle) (fun b hb => ownLow (unhide O2 b hb) hle) (unhide HBT)).mono ?_
      rintro _ w6 ⟨rm, vt, hrm, rfl, hfin, htr, f6⟩
      have F6 := hide ((unhide F5).trans f6)
      have HRM := hide hrm
      have HFIN := hide hfin
      have HTR := hide htr
      have FF6 := hide f6
      clear hrm hfin htr f6
      refine hK'.out _ _ (unhide HSS _ (unhide F6)) (fun hHeld => ?_)
      clear hK' K'
      try simp only [List.setIfInBounds_toArray, List.set_cons_zero, List.set_cons_succ]
      refine take_yes (i := 7) (d := 21) (v := ?_) (fuel := 9) rfl rfl (by kernel_rfl) (by kernel_rfl) (by kernel_rfl) (fun _ _ _ h => h) (by rfl) ?_ (by assumption) ?_
      rotate_left
      · intro w hSw; (try dsimp only at hSw); go_simp; try with_reducible rfl
      simp only [List.setIfInBounds_toArray, List.set_cons_zero, List.set_cons_succ]
      refine take_yes (i := 8) (d := 29) (v := ?_) (fuel := 8) rfl rfl (by kernel_rfl) (by kernel_rfl) (by kernel_rfl) (fun _ _ _ h => h) (by rfl) ?_ (by assumption) ?_
      rotate_left
      · intro w hSw; (try dsimp only at hSw); go_simp; try with_reducible rfl
      simp only [List.setIfInBounds_toArray, List.set_cons_zero, List.set_cons_succ]
      refine take_yes (i := 9) (d := 30) (v := ?_) (fuel := 7) rfl rfl (by kernel_rfl) (by kernel_rfl) (by kernel_rfl) (fun _ _ _ h => h) (by rfl) ?_ (by assumption) ?_
      rotate_left
      · intro w hSw; (try dsimp only at hSw); go_simp; try with_reducible rfl
      simp only [List.setIfInBounds_toArray, List.set_cons_zero, List.set_cons_succ]
      refine take_yes (i := 10) (d := 31) (v := ?_) (fuel := 6) rfl rfl (by kernel_rfl) (by kernel_rfl) (by kernel_rfl) (fun _ _ _ h => h) (by rfl) ?_ (by assumption) ?_
      rotate_left
      · intro w hSw; (try dsimp only at hSw); go_simp; try with_reducible rfl
      simp only [List.setIfInBounds_toArray, List.set_cons_zero, List.set_cons_succ]
      refine take_yes (i := 11) (d := 32) (v := ?_) (fuel := 5) rfl rfl (by kernel_rfl) (by kernel_rfl) (by kernel_rfl) (fun _ _ _ h => h) (by rfl) ?_ (by assumption) ?_
      rotate_left
      · intro w hSw; (try dsimp only at hSw); go_simp; try with_reducible rfl
      simp only [List.setIfInBounds_toArray, List.set_cons_zero, List.set_cons_succ]
      refine wpAnyH_ready (rs := [12]) (by kernel_rfl) (by simp) ?_
      refine (AllReadyH.cons rfl (fun K' hK' => ?_) AllReadyH.nil)
      go_simp
      refine hK'.out _ _ (unhide HSS _ ((unhide F6).alloc _)) (fun hHeld => ?_)
      clear hK' K'
      try simp only [List.setIfInBounds_toArray, List.set_cons_zero, List.set_cons_succ]
      refine take_yes (i := 13) (d := 9) (v := ?_) (fuel := 3) rfl rfl (by kernel_rfl) (by kernel_rfl) (by kernel_rfl) (fun _ _ _ h => h) (by rfl) ?_ (by assumption) ?_
      rotate_left
      · intro w hSw; (try dsimp only at hSw); go_simp; try with_reducible rfl
      simp only [List.setIfInBounds_toArray, List.set_cons_zero, List.set_cons_succ]
      refine take_yes (i := 14) (d := 10) (v := ?_) (fuel := 2) rfl rfl (by kernel_rfl) (by kernel_rfl) (by kernel_rfl) (fun _ _ _ h => h) (by rfl) ?_ (by assumption) ?_
      rotate_left
      · intro w hSw; (try dsimp only at hSw); go_simp; try with_reducible rfl
      simp only [List.setIfInBounds_toArray, List.set_cons_zero, List.set_cons_succ]
      refine wpAnyH_ready (rs := [15]) (by kernel_rfl) (by simp) ?_
      refine (AllReadyH.cons rfl (fun K' hK' => ?_) AllReadyH.nil)
      go_simp
      refine hK'.out _ _ (unhide HSS _ ((unhide F6).alloc _)) (fun hHeld => ?_)
      clear hK' K'
      try simp only [List.setIfInBounds_toArray, List.set_cons_zero, List.set_cons_succ]
      refine take_yes (i := 16) (d := 12) (v := ?_) (fuel := 0) rfl rfl (by kernel_rfl) (by kernel_rfl) (by kernel_rfl) (fun _ _ _ h => h) (by rfl) ?_ (by assumption) ?_
      rotate_left
      · intro w hSw; (try dsimp only at hSw); go_simp; try with_reducible rfl
      simp only [List.setIfInBounds_toArray, List.set_cons_zero, List.set_cons_succ]
      refine wpAnyH_done (by kernel_rfl) ?_ _
      exact unhide HDONE w6.heap.size _ vt v0 v1 bt rm (unhide HRM) ((unhide F6).alloc _) (unhide F6).size (heap_alloc_new _ _) (unhide HFIN) (unhide HBT) (rowLow ((unhide HTR).alloc _) (unhide F5).size)
    · go_simp
      refine hK'.out _ _ (unhide HSS _ ((unhide F5).alloc _)) (fun hHeld => ?_)
      clear hK' K'
      try simp only [List.setIfInBounds_toArray, List.set_cons_zero, List.set_cons_succ]
      refine wpAnyH_ready (rs := [6]) (by kernel_rfl) (by simp) ?_
      refine (AllReadyH.cons rfl (fun K' hK' => ?_) AllReadyH.nil)
      go_simp
      go_at_call 22
      refine (unhide H22 _ v0 v1 bt ((unhide F24).trans ((unhide F5).alloc _)) (ownLow (OwnI.alloc' (unhide O0) _) hle) (rowLow ((unhide O1).alloc _) hle) (fun b hb => ownLow (OwnI.alloc' (unhide O2 b hb) _) hle) (unhide HBT)).mono ?_
      rintro _ w6 ⟨rm, vt, hrm, rfl, hfin, htr, f6⟩
      have F6 := hide (((unhide F5).alloc _).trans f6)
      have HRM := hide hrm
      have HFIN := hide hfin
      have HTR := hide htr
      have FF6 := hide f6
      clear hrm hfin htr f6
      refine hK'.out _ _ (unhide HSS _ (unhide F6)) (fun hHeld => ?_)
      clear hK' K'
      try simp only [List.setIfInBounds_toArray, List.set_cons_zero, List.set_cons_succ]
      have hg6 : w6.heap[w5.heap.size]? = some (.cells #[.int .i64 0, .int .i64 0, .int .i64 0, .int .i64 0, .int .i64 0, .int .i64 0, .int .i64 0] 37) := ((unhide FF6).same w5.heap.size (by simp) (fun h => h)).trans (heap_alloc_new _ _)
      have cg6 := fun j => cell_of_row w6 _ j _ 37 (0, 0) hg6
      have zg6 := fun j => frozen_rowE hg6 j
      have HG6 := hide hg6
      clear hg6
      refine take_yes (i := 7) (d := 21) (v := ?_) (fuel := 8) rfl rfl (by kernel_rfl) (by kernel_rfl) (by kernel_rfl) (fun _ _ _ h => h) (by rfl) ?_ (by assumption) ?_
      rotate_left
      · intro w hSw; (try dsimp only at hSw); go_simp; try with_reducible rfl
      simp only [List.setIfInBounds_toArray, List.set_cons_zero, List.set_cons_succ]
      refine take_yes (i := 8) (d := 29) (v := ?_) (fuel := 7) rfl rfl (by kernel_rfl) (by kernel_rfl) (by kernel_rfl) (fun _ _ _ h => h) (by rfl) ?_ (by assumption) ?_
      rotate_left
      · intro w hSw; (try dsimp only at hSw); go_simp; try with_reducible rfl
      simp only [List.setIfInBounds_toArray, List.set_cons_zero, List.set_cons_succ]
      refine take_yes (i := 9) (d := 30) (v := ?_) (fuel := 6) rfl rfl (by kernel_rfl) (by kernel_rfl) (by kernel_rfl) (fun _ _ _ h => h) (by rfl) ?_ (by assumption) ?_
      rotate_left
      · intro w hSw; (try dsimp only at hSw); go_simp; try with_reducible rfl
      simp only [List.setIfInBounds_toArray, List.set_cons_zero, List.set_cons_succ]
      refine take_yes (i := 10) (d := 31) (v := ?_) (fuel := 5) rfl rfl (by kernel_rfl) (by kernel_rfl) (by kernel_rfl) (fun _ _ _ h => h) (by rfl) ?_ (by assumption) ?_
      rotate_left
      · intro w hSw; (try dsimp only at hSw); go_simp; try with_reducible rfl
      simp only [List.setIfInBounds_toArray, List.set_cons_zero, List.set_cons_succ]
      refine take_yes (i := 11) (d := 32) (v := ?_) (fuel := 4) rfl rfl (by kernel_rfl) (by kernel_rfl) (by kernel_rfl) (fun _ _ _ h => h) (by rfl) ?_ (by assumption) ?_
      rotate_left
      · intro w hSw; (try dsimp only at hSw); go_simp; try with_reducible rfl
      simp only [List.setIfInBounds_toArray, List.set_cons_zero, List.set_cons_succ]
      refine take_yes (i := 13) (d := 9) (v := ?_) (fuel := 3) rfl rfl (by kernel_rfl) (by kernel_rfl) (by kernel_rfl) (fun _ _ _ h => h) (by rfl) ?_ (by assumption) ?_
      rotate_left
      · intro w hSw; (try dsimp only at hSw); go_simp; try with_reducible rfl
      simp only [List.setIfInBounds_toArray, List.set_cons_zero, List.set_cons_succ]
      refine take_yes (i := 14) (d := 10) (v := ?_) (fuel := 2) rfl rfl (by kernel_rfl) (by kernel_rfl) (by kernel_rfl) (fun _ _ _ h => h) (by rfl) ?_ (by assumption) ?_
      rotate_left
      · intro w hSw; (try dsimp only at hSw); go_simp; try with_reducible rfl
      simp only [List.setIfInBounds_toArray, List.set_cons_zero, List.set_cons_succ]
      refine wpAnyH_ready (rs := [15]) (by kernel_rfl) (by simp) ?_
      refine (AllReadyH.cons rfl (fun K' hK' => ?_) AllReadyH.nil)
      go_simp
      have hfo := out7_fr (unhide F6) (g := w5.heap.size) (.inr ((unhide F5).size)) (.int .i64 rm.1.fin) (.int .i64 (rm.1.reg 0)) (.int .i64 (rm.1.reg 1)) (.int .i64 (rm.1.reg 2)) (.int .i64 (rm.1.reg 3)) (.int .i64 rm.1.clock) (.int .i64 rm.1.heard)
      have hro := out7 (unhide HG6) (.int .i64 rm.1.fin) (.int .i64 (rm.1.reg 0)) (.int .i64 (rm.1.reg 1)) (.int .i64 (rm.1.reg 2)) (.int .i64 (rm.1.reg 3)) (.int .i64 rm.1.clock) (.int .i64 rm.1.heard)
      refine hK'.out _ _ (unhide HSS _ (hfo)) (fun hHeld => ?_)
      clear hK' K'
      try simp only [List.setIfInBounds_toArray, List.set_cons_zero, List.set_cons_succ]
      refine take_yes (i := 16) (d := 12) (v := ?_) (fuel := 0) rfl rfl (by kernel_rfl) (by kernel_rfl) (by kernel_rfl) (fun _ _ _ h => h) (by rfl) ?_ (by assumption) ?_
      rotate_left
      · intro w hSw; (try dsimp only at hSw); go_simp; try with_reducible rfl
      simp only [List.setIfInBounds_toArray, List.set_cons_zero, List.set_cons_succ]
      refine wpAnyH_done (by kernel_rfl) ?_ _
      refine unhide HDONE w5.heap.size _ vt v0 v1 bt rm (unhide HRM) hfo ((unhide F5).size) hro (unhide HFIN) (unhide HBT) ?_
      refine rowLow (ownsRow_of_block (unhide HTR) (fun q hq => ?_)) (by have := (unhide F5).size; simp; omega)
      have hq1 := (World.ownsRow.lt (unhide HTR) q hq).1
      have hq' : q ≠ w5.heap.size := by simp at hq1; omega
      rw [Below.heap_setCell _ _ _ _ hq', Below.heap_setCell _ _ _ _ hq', Below.heap_setCell _ _ _ _ hq', Below.heap_setCell _ _ _ _ hq', Below.heap_setCell _ _ _ _ hq', Below.heap_setCell _ _ _ _ hq', Below.heap_setCell _ _ _ _ hq']
  · have hle : w2.heap.size ≤ (w4.drew.alloc (.cells #[.int .i64 0, .int .i64 0, .int .i64 0, .int .i64 0, .int .i64 0, .int .i64 0, .int .i64 0] 37)).heap.size := by
      have : (w4.drew.alloc (.cells #[.int .i64 0, .int .i64 0, .int .i64 0, .int .i64 0, .int .i64 0, .int .i64 0, .int .i64 0] 37)).heap.size = w4.heap.size + 1 := by simp
      omega
    go_simp
    refine hK'.out _ _ (unhide HSS _ ((unhide HD4).alloc _)) (fun hHeld => ?_)
    clear hK' K'
    try simp only [List.setIfInBounds_toArray, List.set_cons_zero, List.set_cons_succ]
    refine wpAnyH_ready (rs := [3]) (by kernel_rfl) (by simp) ?_
    refine (AllReadyH.cons rfl (fun K' hK' => ?_) AllReadyH.nil)
    go_simp
    go_at_call 26
    refine (unhide H26 _ (((unhide F4).drew.alloc _))).mono ?_
    rintro _ w5 ⟨v0, v1, bt, rfl, o0, o1, o2, hbt, f5⟩
    have F5 := hide ((((unhide HD4).alloc _)).trans f5)
    have FF5 := hide f5
    have O0 := hide o0
    have O1 := hide o1
    have O2 := hide o2
    have HBT := hide hbt
    clear o0 o1 o2 hbt f5
    refine hK'.out _ _ (unhide HSS _ (unhide F5)) (fun hHeld => ?_)
    clear hK' K'
    try simp only [List.setIfInBounds_toArray, List.set_cons_zero, List.set_cons_succ]
    have hx4 : (w4.drew.alloc (.cells #[.int .i64 0, .int .i64 0, .int .i64 0, .int .i64 0, .int .i64 0, .int .i64 0, .int .i64 0] 37)).heap.size = w4.heap.size + 1 := by simp
    have hle4 : w4.heap.size < w5.heap.size := by have := (unhide FF5).size; omega
    have hg5 : w5.heap[w4.heap.size]? = some (.cells #[.int .i64 0, .int .i64 0, .int .i64 0, .int .i64 0, .int .i64 0, .int .i64 0, .int .i64 0] 37) := ((unhide FF5).same w4.heap.size (by omega) (fun h => h)).trans (heap_alloc_new w4.drew _)
    clear hx4
    refine wpAnyH_ready (rs := [6]) (by kernel_rfl) (by simp) ?_
    refine (AllReadyH.cons rfl (fun K' hK' => ?_) AllReadyH.nil)
    go_simp
    go_at_call 22
    refine (unhide H22 _ v0 v1 bt ((unhide F24).trans (unhide F5)) (ownLow (unhide O0) hle) (rowLow (unhide O1) hle) (fun b hb => ownLow (unhide O2 b hb) hle) (unhide HBT)).mono ?_
    rintro _ w6 ⟨rm, vt, hrm, rfl, hfin, htr, f6⟩
    have F6 := hide ((unhide F5).trans f6)
    have HRM := hide hrm
    have HFIN := hide hfin
    have HTR := hide htr
    have FF6 := hide f6
    clear hrm hfin htr f6
    refine hK'.out _ _ (unhide HSS _ (unhide F6)) (fun hHeld => ?_)
    clear hK' K'
    try simp only [List.setIfInBounds_toArray, List.set_cons_zero, List.set_cons_succ]
    have hg6 := ((unhide FF6).same w4.heap.size hle4 (fun h => h)).trans hg5
    clear hg5
    have cg6 := fun j => cell_of_row w6 _ j _ 37 (0, 0) hg6
    have zg6 := fun j => frozen_rowE hg6 j
    have HG6 := hide hg6
    clear hg6
    refine take_yes (i := 7) (d := 21) (v := ?_) (fuel := 8) rfl rfl (by kernel_rfl) (by kernel_rfl) (by kernel_rfl) (fun _ _ _ h => h) (by rfl) ?_ (by assumption) ?_
    rotate_left
    · intro w hSw; (try dsimp only at hSw); go_simp; try with_reducible rfl
    simp only [List.setIfInBounds_toArray, List.set_cons_zero, List.set_cons_succ]
    refine take_yes (i := 8) (d := 29) (v := ?_) (fuel := 7) rfl rfl (by kernel_rfl) (by kernel_rfl) (by kernel_rfl) (fun _ _ _ h => h) (by rfl) ?_ (by assumption) ?_
    rotate_left
    · intro w hSw; (try dsimp only at hSw); go_simp; try with_reducible rfl
    simp only [List.setIfInBounds_toArray, List.set_cons_zero, List.set_cons_succ]
    refine take_yes (i := 9) (d := 30) (v := ?_) (fuel := 6) rfl rfl (by kernel_rfl) (by kernel_rfl) (by kernel_rfl) (fun _ _ _ h => h) (by rfl) ?_ (by assumption) ?_
    rotate_left
    · intro w hSw; (try dsimp only at hSw); go_simp; try with_reducible rfl
    simp only [List.setIfInBounds_toArray, List.set_cons_zero, List.set_cons_succ]
    refine take_yes (i := 10) (d := 31) (v := ?_) (fuel := 5) rfl rfl (by kernel_rfl) (by kernel_rfl) (by kernel_rfl) (fun _ _ _ h => h) (by rfl) ?_ (by assumption) ?_
    rotate_left
    · intro w hSw; (try dsimp only at hSw); go_simp; try with_reducible rfl
    simp only [List.setIfInBounds_toArray, List.set_cons_zero, List.set_cons_succ]
    refine take_yes (i := 11) (d := 32) (v := ?_) (fuel := 4) rfl rfl (by kernel_rfl) (by kernel_rfl) (by kernel_rfl) (fun _ _ _ h => h) (by rfl) ?_ (by assumption) ?_
    rotate_left
    · intro w hSw; (try dsimp only at hSw); go_simp; try with_reducible rfl
    simp only [List.setIfInBounds_toArray, List.set_cons_zero, List.set_cons_succ]
    refine take_yes (i := 13) (d := 9) (v := ?_) (fuel := 3) rfl rfl (by kernel_rfl) (by kernel_rfl) (by kernel_rfl) (fun _ _ _ h => h) (by rfl) ?_ (by assumption) ?_
    rotate_left
    · intro w hSw; (try dsimp only at hSw); go_simp; try with_reducible rfl
    simp only [List.setIfInBounds_toArray, List.set_cons_zero, List.set_cons_succ]
    refine take_yes (i := 14) (d := 10) (v := ?_) (fuel := 2) rfl rfl (by kernel_rfl) (by kernel_rfl) (by kernel_rfl) (fun _ _ _ h => h) (by rfl) ?_ (by assumption) ?_
    rotate_left
    · intro w hSw; (try dsimp only at hSw); go_simp; try with_reducible rfl
    simp only [List.setIfInBounds_toArray, List.set_cons_zero, List.set_cons_succ]
    refine wpAnyH_ready (rs := [15]) (by kernel_rfl) (by simp) ?_
    refine (AllReadyH.cons rfl (fun K' hK' => ?_) AllReadyH.nil)
    go_simp
    have hfo := out7_fr (unhide F6) (g := w4.heap.size) (.inr (Nat.le_refl _)) (.int .i64 rm.1.fin) (.int .i64 (rm.1.reg 0)) (.int .i64 (rm.1.reg 1)) (.int .i64 (rm.1.reg 2)) (.int .i64 (rm.1.reg 3)) (.int .i64 rm.1.clock) (.int .i64 rm.1.heard)
    have hro := out7 (unhide HG6) (.int .i64 rm.1.fin) (.int .i64 (rm.1.reg 0)) (.int .i64 (rm.1.reg 1)) (.int .i64 (rm.1.reg 2)) (.int .i64 (rm.1.reg 3)) (.int .i64 rm.1.clock) (.int .i64 rm.1.heard)
    refine hK'.out _ _ (unhide HSS _ (hfo)) (fun hHeld => ?_)
    clear hK' K'
    try simp only [List.setIfInBounds_toArray, List.set_cons_zero, List.set_cons_succ]
    refine take_yes (i := 16) (d := 12) (v := ?_) (fuel := 0) rfl rfl (by kernel_rfl) (by kernel_rfl) (by kernel_rfl) (fun _ _ _ h => h) (by rfl) ?_ (by assumption) ?_
    rotate_left
    · intro w hSw; (try dsimp only at hSw); go_simp; try with_reducible rfl
    simp only [List.setIfInBounds_toArray, List.set_cons_zero, List.set_cons_succ]
    refine wpAnyH_done (by kernel_rfl) ?_ _
    refine unhide HDONE w4.heap.size _ vt v0 v1 bt rm (unhide HRM) hfo (Nat.le_refl _) hro (unhide HFIN) (unhide HBT) ?_
    refine rowLow (ownsRow_of_block (unhide HTR) (fun q hq => ?_)) ((unhide F5).size)
    have hq1 := (World.ownsRow.lt (unhide HTR) q hq).1
    have hq' : q ≠ w4.heap.size := by omega
    rw [Below.heap_setCell _ _ _ _ hq', Below.heap_setCell _ _ _ _ hq', Below.heap_setCell _ _ _ _ hq', Below.heap_setCell _ _ _ _ hq', Below.heap_setCell _ _ _ _ hq', Below.heap_setCell _ _ _ _ hq', Below.heap_setCell _ _ _ _ hq']
end Go.Proofs.YtfmbebofllgmoaaGreatDoor
