/-
  PROVED HERE: the reader's record: what the record tells with which bytes begin, or why there is none. the keep statements' program, of raw handlers: the walk.
-/
import Derived.Test.YtfmbebofllgmoaaGreatDoorProg
import Derived.WalkKit
import Derived.WalkSpells
import Derived.WalkLawsBesides
import Derived.Deep.QuietTactic
import Derived.BigQuiet
import Derived.Deep.RegionHeld3
import Derived.Deep.AppendLies
import Derived.Laws.EntriesVeiled
import Derived.Deep.DrawnRows
import Derived.BigRegion
import Derived.Deep.LoopGhost
import Derived.Deep.MidRow
import Derived.Shelf.SlSortCmp.SmallK
import Derived.Shelf.SlicesG.Cmp
import Derived.Shelf.Small.Bits
import Derived.Deep.RegionLaw
import Derived.Lib.SliceRun
import Derived.Laws.StructEq
import Derived.Laws.BytesString
import Derived.ArgAppend
import Derived.Deep.DeepCutAuto
import Derived.Conc.LoneCalls
import Derived.Calls
import Derived.Tactics
import Derived.KernelRfl
import Derived.Laws.Rows
import Derived.Lib.SlBytesConst
import Derived.Laws.BitsAllLaws
import Derived.RangeFuncOwn
import Derived.Laws.IdiomStrings
import Derived.Test.YtfmbebofllgmoaaGreatDoorSreplaysar
import Derived.Test.YtfmbebofllgmoaaGreatDoorSreplaysas
import Derived.Test.YtfmbebofllgmoaaGreatDoorSreplaysav
import Derived.Test.YtfmbebofllgmoaaGreatDoorSreplaysaz
namespace Go.Proofs.YtfmbebofllgmoaaGreatDoor
open Go.RowKit
attribute [local go_sem ↓] Go.wp_at_zero Go.wp_at_succ

/-- '[]byte(s)': new memory that holds the bytes. -/
theorem bytes_of (s : ByteArray) (w : World) : ∃ cap W, (convert 9 54 (.string s)).run Tryz.prog w = .ok (.slice (some ⟨w.heap.size, 0, none⟩) s.size cap) W ∧ W.heap.size = w.heap.size + 1 ∧ Fr (fun _ => False) w W (fun _ => False) ∧ BytesAt W (.slice (some ⟨w.heap.size, 0, none⟩) s.size cap) s := by
  have h := run_bytes_of_string (P := Tryz.prog) w 9 54 5 s Tryz.underlying9 Tryz.underlying54 Tryz.underlying5
  refine ⟨_, _, h, by show (World.alloc _ _).heap.size = _; simp, ((Fr.refl _ w).drew).alloc _, w.heap.size, 0, _, rfl, fun j u hj => ?_⟩
  have hl : j < s.size := by have := (List.getElem?_eq_some_iff.1 hj).1; rwa [u8s_length] at this
  have hb := heap_alloc_new w.drew (.cells (bytesRow s (grownCap w s.size 0 5)) 5 ((bytesRow s (grownCap w s.size 0 5)).size, (bytesRow s (grownCap w s.size 0 5)).size + 1))
  rw [Nat.zero_add]
  have hc := cell_of_row (w.drew.alloc (.cells (bytesRow s (grownCap w s.size 0 5)) 5 ((bytesRow s (grownCap w s.size 0 5)).size, (bytesRow s (grownCap w s.size 0 5)).size + 1))) w.heap.size j _ 5 _ hb
  rw [hc, bytesRow_at s _ j hl]
  rw [u8s_get s j hl] at hj
  rw [← hj]
  rfl

theorem Fr.nilF {w w' : World} (h : Fr (fun _ => False) w.drew w' (fun _ => False)) : Fr (fun _ => False) w w' (fun _ => False) := ⟨h.os, h.tape, h.output, h.size, h.same, h.old⟩
theorem bs_cons {s : ByteArray} (h : 0 < s.size) : ∃ t, bs s = byteAt s 0 :: t ∧ t.length + 1 = s.size := by
  have hl := bs_len s
  cases hb : bs s with
  | nil => rw [hb] at hl; simp at hl; omega
  | cons n t => exact ⟨t, by rw [byteAt_bs, hb]; rfl, by rw [hb] at hl; simpa using hl⟩
theorem rc_len {s : ByteArray} (h : (lenM s).2 ≠ 0) : ∃ w : Nat, rcL (bs s) = .inl w ∧ lenM s = (0, (w : Int)) := by
  by_cases h0 : 0 < s.size
  · obtain ⟨t, ht, hl⟩ := bs_cons h0
    rw [ht]
    unfold lenM at h ⊢
    simp only [rcL]
    by_cases h1 : 128 ≤ byteAt s 0 ∧ s.size = 1
    · rw [if_pos ⟨h1.1, List.eq_nil_of_length_eq_zero (by omega)⟩, if_pos (.inr h1)]
      exact ⟨2, rfl, rfl⟩
    · have h1' : ¬ (128 ≤ byteAt s 0 ∧ t = []) := fun hh => h1 ⟨hh.1, by rw [hh.2] at hl; simp at hl; omega⟩
      have h1'' : ¬ (s.size = 0 ∨ (128 ≤ byteAt s 0 ∧ s.size = 1)) := by
        rintro (hh | hh)
        · omega
        · exact h1 hh
      rw [if_neg h1'] 
      rw [if_neg h1''] at h ⊢
      by_cases h2 : byteAt s 0 < 1 ∨ 40 < byteAt s 0
      · rw [if_pos h2, if_pos h2]
        exact ⟨4, rfl, rfl⟩
      · rw [if_neg h2] at h
        exact absurd rfl h
  · cases str_zero h0
    exact ⟨2, rfl, rfl⟩
theorem len_ok {s : ByteArray} (h : (lenM s).2 = 0) : 0 < s.size ∧ 1 ≤ byteAt s 0 ∧ byteAt s 0 ≤ 40 ∧ lenM s = ((byteAt s 0 : Int), 0) := by
  unfold lenM at h ⊢
  split at h
  · simp at h
  · rename_i h1
    rw [if_neg h1]
    split at h
    · simp at h
    · rename_i h2
      rw [if_neg h2]
      exact ⟨by omega, by omega, by omega, rfl⟩
theorem rc_short {s : ByteArray} (h : (lenM s).2 = 0) (hs : s.size < byteAt s 0 + 5) : rcL (bs s) = .inl 2 := by
  obtain ⟨h0, h1, h40, _⟩ := len_ok h
  obtain ⟨t, ht, hl⟩ := bs_cons h0
  rw [ht]
  simp only [rcL]
  rw [if_neg (by omega), if_neg (by omega), if_pos (by omega)]
theorem rc_long {s : ByteArray} (h : (lenM s).2 = 0) (hs : byteAt s 0 + 5 ≤ s.size) : rcL (bs s) =
    if bs (sumS (s.extract 1 (1 + byteAt s 0))) ≠ bs (s.extract (1 + byteAt s 0) (1 + byteAt s 0 + 4)) then .inl 3 else match inpM (s.extract 1 (1 + byteAt s 0)) with
      | none => .inl 4
      | some r => .inr ((byteAt (s.extract 1 (1 + byteAt s 0)) 0, r), byteAt s 0 + 5) := by
  obtain ⟨h0, h1, h40, _⟩ := len_ok h
  obtain ⟨t, ht, hl⟩ := bs_cons h0
  have e1 : bs (s.extract 1 (1 + byteAt s 0)) = t.take (byteAt s 0) := by rw [bs_sub, ht, Nat.add_comm 1, List.take_succ_cons, List.drop_succ_cons, List.drop_zero]
  have e2 : bs (s.extract (1 + byteAt s 0) (1 + byteAt s 0 + 4)) = (t.drop (byteAt s 0)).take 4 := by
    rw [bs_sub, ht, show 1 + byteAt s 0 + 4 = (byteAt s 0 + 4) + 1 by omega, List.take_succ_cons, Nat.add_comm 1, List.drop_succ_cons, List.drop_take]
    congr 1; omega
  have hz : (s.extract 1 (1 + byteAt s 0)).size = byteAt s 0 := by rw [ByteArray.size_extract]; omega
  have e3 := ipL_bs (s.extract 1 (1 + byteAt s 0)) (by omega)
  rw [e1] at e3
  rw [← sm_bs, e1, e2]
  generalize byteAt s 0 = n at *
  rw [ht]
  simp only [rcL]
  rw [if_neg (by omega), if_neg (by omega), if_neg (by omega), e3]
  split
  · rfl
  · cases inpM (s.extract 1 (1 + n)) <;> rfl

def RcPost (s : ByteArray) (w : World) (e : Ending) (w' : World) : Prop :=
  Fr (fun _ => False) w w' (fun _ => False) ∧ match rcL (bs s) with
  | .inl y => e = .returned (.tuple #[.agg #[.int .i64 0, .int .i64 0, .int .i64 0, .slice none 0 0], .int .i64 0, .int .i64 y])
  | .inr (x, k) => ∃ a l c, e = .returned (.tuple #[.agg #[.int .i64 x.1, .int .i64 x.2.1, .int .i64 x.2.2.1, .slice a l c], .int .i64 k, .int .i64 0]) ∧ OwnI w' (w.heap.size + 1) (.slice a l c) (zs x.2.2.2)
theorem rcp_no {s : ByteArray} {w w' : World} {y : Nat} {z : Int} (h : rcL (bs s) = .inl y) (hz : z = y) (hf : Fr (fun _ => False) w w' (fun _ => False)) : RcPost s w (.returned (.tuple #[.agg #[.int .i64 0, .int .i64 0, .int .i64 0, .slice none 0 0], .int .i64 0, .int .i64 z])) w' := by
  unfold RcPost; rw [h]; subst hz; exact ⟨hf, rfl⟩
theorem rcp_yes {s : ByteArray} {w w' : World} {x : Inp} {k : Nat} {z0 z1 z2 z3 : Int} {a : Option Addr} {l c : Nat} (h : rcL (bs s) = .inr (x, k)) (h0 : z0 = x.1) (h1 : z1 = x.2.1) (h2 : z2 = x.2.2.1) (h3 : z3 = k) (hr : OwnI w' (w.heap.size + 1) (.slice a l c) (zs x.2.2.2)) (hf : Fr (fun _ => False) w w' (fun _ => False)) : RcPost s w (.returned (.tuple #[.agg #[.int .i64 z0, .int .i64 z1, .int .i64 z2, .slice a l c], .int .i64 z3, .int .i64 0])) w' := by
  unfold RcPost; rw [h]; subst h0 h1 h2 h3; exact ⟨hf, a, l, c, rfl, hr⟩

set_option maxHeartbeats 1000000 in
set_option maxRecDepth 20000 in
theorem record_no (s : ByteArray) (hs : s.size ≤ 1000000000) (w : World) (h : (lenM s).2 ≠ 0) : Calls Tryz.prog 59 #[.string s] w (RcPost s w) := by
  obtain ⟨y, hy, hl⟩ := rc_len h
  have hc := length_any s hs
  rw [hl] at hc h
  have hne : ((y : Int) != 0) = true := by simpa using h
  have HC := hide hc
  have HY := hide hy
  clear hc hy hl h
  go_enter Tryz.func59, Tryz.ntmps59
  go_wp2_with (go_at_call 99; refine ((unhide HC) _).mono ?_; rintro e w1 ⟨rfl, rfl⟩)
  refine bodyPost_ret (v := .tuple #[.agg #[.int .i64 0, .int .i64 0, .int .i64 0, .slice none 0 0], .int .i64 0, .int .i64 y]) (by simp [results, Tryz.results59, go_sem]) rfl (rcp_no (unhide HY) rfl ((Fr.refl _ w).alloc _))
set_option maxHeartbeats 1000000 in
set_option maxRecDepth 20000 in
theorem record_short (s : ByteArray) (hs : s.size ≤ 1000000000) (w : World) (h : (lenM s).2 = 0) (hn : s.size < byteAt s 0 + 5) : Calls Tryz.prog 59 #[.string s] w (RcPost s w) := by
  have hy := rc_short h hn
  obtain ⟨h0, h1, h40, hl⟩ := len_ok h
  have hc := length_any s hs
  rw [hl] at hc
  have HC := hide hc
  have HY := hide hy
  clear hc hy hl h
  generalize byteAt s 0 = n at *
  have hlt : (s.size : Int) < 1 + (n : Int) + 4 := by omega
  clear hn
  go_enter Tryz.func59, Tryz.ntmps59
  go_wp2_with (go_at_call 99; refine ((unhide HC) _).mono ?_; rintro e w1 ⟨rfl, rfl⟩)
  refine bodyPost_ret (v := .tuple #[.agg #[.int .i64 0, .int .i64 0, .int .i64 0, .slice none 0 0], .int .i64 0, .int .i64 2]) (by simp [results, Tryz.results59, go_sem]) rfl (rcp_no (unhide HY) rfl ((Fr.refl _ w).alloc _))
set_option maxHeartbeats 1000000 in
set_option maxRecDepth 20000 in
theorem record_long (s : ByteArray) (hs : s.size ≤ 1000000000) (w : World) (h : (lenM s).2 = 0) (hn : byteAt s 0 + 5 ≤ s.size) : Calls Tryz.prog 59 #[.string s] w (RcPost s w) := by
  have hy := rc_long h hn
  obtain ⟨h0, h1, h40, hl⟩ := len_ok h
  have hc := length_any s hs
  rw [hl] at hc
  have HC := hide hc
  have HY := hide hy
  clear hc hy hl h
  generalize byteAt s 0 = n at *
  have hlt : ¬ (s.size : Int) < 1 + (n : Int) + 4 := by omega
  have hi1 : (1 : Int) ≤ 1 + (n : Int) := by omega
  have hi2 : 1 + (n : Int) ≤ s.size := by omega
  have hi3 : 1 + (n : Int) ≤ 1 + (n : Int) + 4 := by omega
  have hi4 : 1 + (n : Int) + 4 ≤ s.size := by omega
  have hi5 : (0 : Int) ≤ 1 + (n : Int) := by omega
  have hwr : IntKind.i64.wrap (1 + (n : Int)) = 1 + (n : Int) := by rw [IntKind.wrap_i64]; omega
  go_enter Tryz.func59, Tryz.ntmps59
  go_upto_region 8 with (go_at_call 99; refine ((unhide HC) _).mono ?_; rintro e w1 ⟨rfl, rfl⟩)
  obtain ⟨cap, W1, hcv, hz1, f1, hb1⟩ := bytes_of (s.extract 1 (1 + n)) ((w.alloc (.cells #[.int .i64 0, .int .i64 0, .int .i64 0, .slice none 0 0] 49)).drew)
  have hbz : (s.extract 1 (1 + n)).size = n := by rw [ByteArray.size_extract]; omega
  have h100 := appendSum_any (w := W1) (B := W1.heap.size) (v := .slice none 0 0) (b := ByteArray.empty) (.inl (World.ownsRow_nil _ _ _ _)) hb1 (by omega) (by decide) (Nat.le_refl _)
  have hsz : ((w.alloc (.cells #[.int .i64 0, .int .i64 0, .int .i64 0, .slice none 0 0] 49)).drew).heap.size = w.heap.size + 1 := by show (World.alloc _ _).heap.size = _; simp
  rw [hbz, hsz] at hcv h100
  rw [ByteArray.empty_append] at h100
  have H4 := hide (b4_size (sumZ (s.extract 1 (1 + n)).data.toList))
  change Hid ((sumS (s.extract 1 (1 + n))).size = 4) at H4
  clear hz1 hsz
  have H100 := hide h100
  have H1 := hide ((f1).nilF)
  clear h100 f1 hb1
  go_cut [38] (fun u wc => u = .bool (!((sumS (s.extract 1 (1 + n))).toList == (s.extract (1 + n) (1 + n + 4)).toList)) ∧ Fr (fun _ => False) (w.alloc (.cells #[.int .i64 0, .int .i64 0, .int .i64 0, .slice none 0 0] 49)) wc (fun _ => False))
  case first =>
    refine wp_region_held_drew (S := fun _ => True) (by kernel_rfl) trivial (fun hHeld => ?_)
    refine take_yes (i := 0) (d := 29) (v := ?_) (fuel := 9) rfl rfl (by kernel_rfl) (by kernel_rfl) (by kernel_rfl) (fun _ _ _ h => h) (by rfl) ?_ (by assumption) ?_
    rotate_left
    · intro w hSw; (try dsimp only at hSw); go_simp; try with_reducible rfl
    simp only [List.setIfInBounds_toArray, List.set_cons_zero, List.set_cons_succ]
    refine take_yes (i := 4) (d := 33) (v := ?_) (fuel := 8) rfl rfl (by kernel_rfl) (by kernel_rfl) (by kernel_rfl) (fun _ _ _ h => h) (by rfl) ?_ (by assumption) ?_
    rotate_left
    · intro w hSw; (try dsimp only at hSw); go_simp; try with_reducible rfl
    simp only [List.setIfInBounds_toArray, List.set_cons_zero, List.set_cons_succ]
    refine take_yes (i := 5) (d := 34) (v := ?_) (fuel := 7) rfl rfl (by kernel_rfl) (by kernel_rfl) (by kernel_rfl) (fun _ _ _ h => h) (by rfl) ?_ (by assumption) ?_
    rotate_left
    · intro w hSw; (try dsimp only at hSw); go_simp; try with_reducible rfl
    simp only [List.setIfInBounds_toArray, List.set_cons_zero, List.set_cons_succ]
    refine take_yes (i := 6) (d := 35) (v := ?_) (fuel := 6) rfl rfl (by kernel_rfl) (by kernel_rfl) (by kernel_rfl) (fun _ _ _ h => h) (by rfl) ?_ (by assumption) ?_
    rotate_left
    · intro w hSw; (try dsimp only at hSw); go_simp; try with_reducible rfl
    simp only [List.setIfInBounds_toArray, List.set_cons_zero, List.set_cons_succ]
    refine take_yes (i := 7) (d := 36) (v := ?_) (fuel := 5) rfl rfl (by kernel_rfl) (by kernel_rfl) (by kernel_rfl) (fun _ _ _ h => h) (by rfl) ?_ (by assumption) ?_
    rotate_left
    · intro w hSw; (try dsimp only at hSw); go_simp; try with_reducible rfl
    simp only [List.setIfInBounds_toArray, List.set_cons_zero, List.set_cons_succ]
    refine take_yes (i := 8) (d := 37) (v := ?_) (fuel := 4) rfl rfl (by kernel_rfl) (by kernel_rfl) (by kernel_rfl) (fun _ _ _ h => h) (by rfl) ?_ (by assumption) ?_
    rotate_left
    · intro w hSw; (try dsimp only at hSw); go_simp; try with_reducible rfl
    simp only [List.setIfInBounds_toArray, List.set_cons_zero, List.set_cons_succ]
    refine wpAnyH_ready (rs := [1]) (by kernel_rfl) (by simp) ?_
    refine AllReadyH.cons rfl (fun K hK => ?_) AllReadyH.nil
    go_simp
    refine hK.out _ _ trivial (fun hHeld => ?_)
    clear hK K
    refine wpAnyH_ready (rs := [2]) (by kernel_rfl) (by simp) ?_
    refine AllReadyH.cons rfl (fun K hK => ?_) AllReadyH.nil
    go_simp
    go_at_call 100
    refine (unhide H100).mono ?_
    rintro e w2 ⟨v2, rfl, o2, f2⟩
    obtain ⟨g2, c2, rfl, _, _⟩ := o2.bytes (by rw [unhide H4]; omega)
    have hcv2 := convB (cap := c2) (o2.cells (by rw [unhide H4]; omega))
    have F2 := hide ((unhide H1).trans f2.nil)
    clear o2 f2
    refine hK.out _ _ trivial (fun hHeld => ?_)
    clear hK K
    refine wpAnyH_ready (rs := [3]) (by kernel_rfl) (by simp) ?_
    refine AllReadyH.cons rfl (fun K hK => ?_) AllReadyH.nil
    go_simp
    refine hK.out _ _ trivial (fun hHeld => ?_)
    clear hK K
    refine take_yes (i := 9) (d := 38) (v := ?_) (fuel := 0) rfl rfl (by kernel_rfl) (by kernel_rfl) (by kernel_rfl) (fun _ _ _ h => h) (by rfl) ?_ (by assumption) ?_
    rotate_left
    · intro w hSw; (try dsimp only at hSw); go_simp; try with_reducible rfl
    simp only [List.setIfInBounds_toArray, List.set_cons_zero, List.set_cons_succ]
    refine wpAnyH_done (by kernel_rfl) ?_ _
    go_wp2
    go_meet
    refine ⟨?_, unhide F2⟩
    have e1 : (1 + (n : Int)).toNat = 1 + n := by omega
    have e2 : (1 + (n : Int) + 4).toNat = 1 + n + 4 := by omega
    rw [e1, e2]
  case rest =>
    obtain ⟨rfl, hf⟩ := hcut
    clear hcv H100 H1 H4
    obtain ⟨⟨r0, r1, r2, r3⟩, rz⟩ := resB hf
    have HF := hide hf
    have hwz : w.heap.size < wc.heap.size := by have := hf.size; simp at this; omega
    clear hf
    by_cases hsum : (sumS (s.extract 1 (1 + n))).toList = (s.extract (1 + n) (1 + n + 4)).toList
    · have hy := unhide HY
      rw [if_neg (fun h => h (toList_bs.1 hsum))] at hy
      have hsb : ((sumS (s.extract 1 (1 + n))).toList == (s.extract (1 + n) (1 + n + 4)).toList) = true := by simpa using hsum
      rw [hsb]
      have h101 := input_any (s.extract 1 (1 + n)) (by omega) (by omega) wc
      cases hin : inpM (s.extract 1 (1 + n)) with
      | none =>
        rw [hin] at hy
        have h2 : Calls Tryz.prog 101 #[.string (s.extract 1 (1 + n))] wc fun e w' => ∃ z0 z1 z2 a l c, e = .returned (.tuple #[.agg #[.int .i64 z0, .int .i64 z1, .int .i64 z2, .slice a l c], .bool false]) ∧ Fr (fun _ => False) wc w' (fun _ => False) := h101.mono fun e w' h => by
          unfold InPost at h; rw [hin] at h; obtain ⟨h1, z0, z1, z2, a, l, c, h2⟩ := h; exact ⟨z0, z1, z2, a, l, c, h2, h1⟩
        have H2 := hide h2
        have HY2 := hide hy
        clear h101 h2 hy hsum hsb hin
        go_wp2_with (go_at_call 101; refine (unhide H2).mono ?_; rintro e w3 ⟨z0, z1, z2, a3, l3, c3, rfl, f3⟩; have F3 := hide ((unhide HF).trans f3); obtain ⟨⟨t0, t1, t2, t3⟩, tz⟩ := resB (unhide F3); clear f3)
        have hz3 := ((unhide F3).same w.heap.size (by simp) (fun h => h)).trans (heap_alloc_new w _)
        have g0 := fun j => cell_of_row _ _ j _ 49 (0, 0) (out4 (out4 hz3 (.int .i64 z0) (.int .i64 z1) (.int .i64 z2) (.slice a3 l3 c3)) (.int .i64 0) (.int .i64 0) (.int .i64 0) (.slice none 0 0))
        exact bodyPost_ret (v := .tuple #[.agg #[.int .i64 0, .int .i64 0, .int .i64 0, .slice none 0 0], .int .i64 0, .int .i64 4]) (by simp [results, Tryz.results59, go_sem, g0]) rfl (rcp_no (unhide HY2) rfl (out4_fr (out4_fr (unhide F3).unalloc (.inr (Nat.le_refl _)) _ _ _ _) (.inr (Nat.le_refl _)) _ _ _ _))
      | some r =>
        obtain ⟨o, m, fs⟩ := r
        rw [hin] at hy
        have h2 : Calls Tryz.prog 101 #[.string (s.extract 1 (1 + n))] wc fun e w' => ∃ a l c, e = .returned (.tuple #[.agg #[.int .i64 (byteAt (s.extract 1 (1 + n)) 0), .int .i64 o, .int .i64 m, .slice a l c], .bool true]) ∧ OwnI w' wc.heap.size (.slice a l c) (zs fs) ∧ Fr (fun _ => False) wc w' (fun _ => False) := h101.mono fun e w' h => by
          unfold InPost at h; rw [hin] at h; obtain ⟨h1, a, l, c, h2, h3⟩ := h; exact ⟨a, l, c, h2, h3, h1⟩
        have H2 := hide h2
        have HY2 := hide hy
        clear h101 h2 hy hsum hsb hin
        generalize byteAt (s.extract 1 (1 + n)) 0 = kd at *
        go_wp2_with (go_at_call 101; refine (unhide H2).mono ?_; rintro e w3 ⟨a3, l3, c3, rfl, o3, f3⟩; have O3' := hide o3; have F3 := hide ((unhide HF).trans f3); obtain ⟨⟨t0, t1, t2, t3⟩, tz⟩ := resB (unhide F3); clear f3 o3)
        have hz3 := ((unhide F3).same w.heap.size (by simp) (fun h => h)).trans (heap_alloc_new w _)
        have g0 := fun j => cell_of_row _ _ j _ 49 (0, 0) (out4 (out4 hz3 (.int .i64 kd) (.int .i64 o) (.int .i64 m) (.slice a3 l3 c3)) (.int .i64 kd) (.int .i64 o) (.int .i64 m) (.slice a3 l3 c3))
        refine bodyPost_ret (v := .tuple #[.agg #[.int .i64 kd, .int .i64 o, .int .i64 m, .slice a3 l3 c3], .int .i64 (1 + (n : Int) + 4), .int .i64 0]) (by simp [results, Tryz.results59, go_sem, g0]) rfl (rcp_yes (unhide HY2) rfl rfl rfl (by omega) ?_ (out4_fr (out4_fr (unhide F3).unalloc (.inr (Nat.le_refl _)) _ _ _ _) (.inr (Nat.le_refl _)) _ _ _ _))
        have h3 := unhide O3'
        refine ownsRow_of_block (ownsRow_low h3 (by omega)) (fun q hq => ?_)
        have hq' := (World.ownsRow.lt h3 q hq).1
        have hne' : q ≠ w.heap.size := by omega
        rw [out4_other hne', out4_other hne']
    · have hy := unhide HY
      rw [if_pos (fun h => hsum (toList_bs.2 h))] at hy
      have hsb : ((sumS (s.extract 1 (1 + n))).toList == (s.extract (1 + n) (1 + n + 4)).toList) = false := by simpa using hsum
      rw [hsb]
      have HY2 := hide hy
      clear hy hsum hsb
      go_wp2
      refine bodyPost_ret (v := .tuple #[.agg #[.int .i64 0, .int .i64 0, .int .i64 0, .slice none 0 0], .int .i64 0, .int .i64 3]) (by simp [results, Tryz.results59, go_sem, r0, r1, r2, r3]) rfl (rcp_no (unhide HY2) rfl (out4_fr (unhide HF).unalloc (.inr (Nat.le_refl _)) _ _ _ _))
/-- The reader's record. -/
theorem record_at (s : ByteArray) (hs : s.size ≤ 1000000000) (w : World) : Calls Tryz.prog 59 #[.string s] w (RcPost s w) := by
  by_cases h : (lenM s).2 = 0
  · by_cases hn : s.size < byteAt s 0 + 5
    · exact record_short s hs w h hn
    · exact record_long s hs w h (by omega)
  · exact record_no s hs w h
end Go.Proofs.YtfmbebofllgmoaaGreatDoor
namespace Go.Proofs.YtfmbebofllgmoaaGreatDoor
open Go.RowKit
attribute [local go_sem ↓] Go.wp_at_zero Go.wp_at_succ

theorem rowLow {w : World} {B B' e size n : Nat} {v : Value} {xs : List Value} (h : w.ownsRow B e size v n xs) (hB : B' ≤ B) : w.ownsRow B' e size v n xs :=
  ⟨h.1, h.2.imp id fun ⟨g, cap, cur, e1, e2, r⟩ => ⟨g, cap, cur, e1, by omega, r⟩⟩
/-! ### What comes out -/
end Go.Proofs.YtfmbebofllgmoaaGreatDoor
