/-
  PROVED HERE: the reader's record: what the record tells with which bytes begin, or why there is none. a range over a function whose own state lies in cells, with a body that never leaves it: from the round's walk and the function's walk to the statement. a list of inputs in memory, each with its files: nobody else's, and no two share room; it grows by one. the document's reader: what a body may come to. the document's reader, of a whole log. the keep statements' program, of raw handlers. the keep statements' world, of a raw one. Record runs a program by a world and writes what it heard. a replay's source keeps its word (HearSpec over repAsk); New makes it of inputs; what is read of a log may be heard. the reader's iterator hands out what a log has, record by record, and keeps where it ends and why. Read gives what the model (readL) says, in new memory, and leaves the rest as it was. what the keep statements know of a recorded run. heads: a list of inputs that is the beginning of another one. the laws' comparisons of lists of numbers and of inputs that are the same; lists that read as their owner wrote them. append to a list of one's own, both the list and what comes of it may be read behind it. the Book of all lists that came out: looks answers true where each reads as its owner wrote it. looks answers true of a Book whose lists read as their owner wrote them. the Book, its lists in blocks of their own: what it keeps where other blocks turn. append to a list of one's own, with room or without: what has turned. the Book where one more list is kept.
-/
import Derived.Test.YtfmbebofllgmoaaGreatDoorProg
import Derived.WalkKit
import Derived.WalkSpells
import Derived.WalkLawsBesides
import Derived.Deep.QuietTactic
import Derived.BigQuiet
import Derived.Deep.RegionHeld3
import Derived.Deep.AppendLies
import Derived.Laws.EntriesVeiled
import Derived.Deep.DrawnRows
import Derived.BigRegion
import Derived.Deep.LoopGhost
import Derived.Deep.RegionLaw
import Derived.Lib.SliceRun
import Derived.Laws.BytesString
import Derived.ArgAppend
import Derived.Laws.BitsAllLaws
import Derived.Deep.MidRow
import Derived.Shelf.SlSortCmp.SmallK
import Derived.Shelf.SlicesG.Cmp
import Derived.Shelf.Small.Bits
import Derived.Laws.StructEq
import Derived.Deep.DeepCutAuto
import Derived.Conc.LoneCalls
import Derived.Calls
import Derived.Tactics
import Derived.KernelRfl
import Derived.Laws.Rows
import Derived.Lib.SlBytesConst
import Derived.RangeFuncOwn
import Derived.Laws.IdiomStrings
import Derived.RangeFuncNested
import Derived.RangeFuncBound
import Derived.RangeFuncCalls
import Derived.RangeFuncLeaves
import Derived.Shelf.RegionOpen
import Derived.OwnWalkIn
import Derived.TacticsInMore
import Derived.Maps.OwnIn
import Derived.Maps.AppendAt
import Derived.LoopNIn
import Derived.LoopIn
import Derived.ChangeKeysEq
import Derived.Deep.DeepAppendRoom
import Derived.Test.YtfmbebofllgmoaaGreatDoorSreadsa
namespace Go.Proofs.YtfmbebofllgmoaaGreatDoor
open Go.RowKit
attribute [local go_sem ↓] Go.wp_at_zero Go.wp_at_succ

/-- '[]byte(s)': new memory that holds the bytes. -/
theorem bytes_of (s : ByteArray) (w : World) : ∃ cap W, (convert 9 54 (.string s)).run Tryz.prog w = .ok (.slice (some ⟨w.heap.size, 0, none⟩) s.size cap) W ∧ W.heap.size = w.heap.size + 1 ∧ Fr (fun _ => False) w W (fun _ => False) ∧ BytesAt W (.slice (some ⟨w.heap.size, 0, none⟩) s.size cap) s := by
  have h := run_bytes_of_string (P := Tryz.prog) w 9 54 5 s Tryz.underlying9 Tryz.underlying54 Tryz.underlying5
  refine ⟨_, _, h, by show (World.alloc _ _).heap.size = _; simp, ((Fr.refl _ w).drew).alloc _, w.heap.size, 0, _, rfl, fun j u hj => ?_⟩
  have hl : j < s.size := by have := (List.getElem?_eq_some_iff.1 hj).1; rwa [u8s_length] at this
  have hb := heap_alloc_new w.drew (.cells (bytesRow s (grownCap w s.size 0 5)) 5 ((bytesRow s (grownCap w s.size 0 5)).size, (bytesRow s (grownCap w s.size 0 5)).size + 1))
  rw [Nat.zero_add]
  have hc := cell_of_row (w.drew.alloc (.cells (bytesRow s (grownCap w s.size 0 5)) 5 ((bytesRow s (grownCap w s.size 0 5)).size, (bytesRow s (grownCap w s.size 0 5)).size + 1))) w.heap.size j _ 5 _ hb
  rw [hc, bytesRow_at s _ j hl]
  rw [u8s_get s j hl] at hj
  rw [← hj]
  rfl

theorem Fr.nilF {w w' : World} (h : Fr (fun _ => False) w.drew w' (fun _ => False)) : Fr (fun _ => False) w w' (fun _ => False) := ⟨h.os, h.tape, h.output, h.size, h.same, h.old⟩
theorem bs_cons {s : ByteArray} (h : 0 < s.size) : ∃ t, bs s = byteAt s 0 :: t ∧ t.length + 1 = s.size := by
  have hl := bs_len s
  cases hb : bs s with
  | nil => rw [hb] at hl; simp at hl; omega
  | cons n t => exact ⟨t, by rw [byteAt_bs, hb]; rfl, by rw [hb] at hl; simpa using hl⟩
theorem rc_len {s : ByteArray} (h : (lenM s).2 ≠ 0) : ∃ w : Nat, rcL (bs s) = .inl w ∧ lenM s = (0, (w : Int)) := by
  by_cases h0 : 0 < s.size
  · obtain ⟨t, ht, hl⟩ := bs_cons h0
    rw [ht]
    unfold lenM at h ⊢
    simp only [rcL]
    by_cases h1 : 128 ≤ byteAt s 0 ∧ s.size = 1
    · rw [if_pos ⟨h1.1, List.eq_nil_of_length_eq_zero (by omega)⟩, if_pos (.inr h1)]
      exact ⟨2, rfl, rfl⟩
    · have h1' : ¬ (128 ≤ byteAt s 0 ∧ t = []) := fun hh => h1 ⟨hh.1, by rw [hh.2] at hl; simp at hl; omega⟩
      have h1'' : ¬ (s.size = 0 ∨ (128 ≤ byteAt s 0 ∧ s.size = 1)) := by
        rintro (hh | hh)
        · omega
        · exact h1 hh
      rw [if_neg h1'] 
      rw [if_neg h1''] at h ⊢
      by_cases h2 : byteAt s 0 < 1 ∨ 40 < byteAt s 0
      · rw [if_pos h2, if_pos h2]
        exact ⟨4, rfl, rfl⟩
      · rw [if_neg h2] at h
        exact absurd rfl h
  · cases str_zero h0
    exact ⟨2, rfl, rfl⟩
theorem len_ok {s : ByteArray} (h : (lenM s).2 = 0) : 0 < s.size ∧ 1 ≤ byteAt s 0 ∧ byteAt s 0 ≤ 40 ∧ lenM s = ((byteAt s 0 : Int), 0) := by
  unfold lenM at h ⊢
  split at h
  · simp at h
  · rename_i h1
    rw [if_neg h1]
    split at h
    · simp at h
    · rename_i h2
      rw [if_neg h2]
      exact ⟨by omega, by omega, by omega, rfl⟩
theorem rc_short {s : ByteArray} (h : (lenM s).2 = 0) (hs : s.size < byteAt s 0 + 5) : rcL (bs s) = .inl 2 := by
  obtain ⟨h0, h1, h40, _⟩ := len_ok h
  obtain ⟨t, ht, hl⟩ := bs_cons h0
  rw [ht]
  simp only [rcL]
  rw [if_neg (by omega), if_neg (by omega), if_pos (by omega)]
theorem rc_long {s : ByteArray} (h : (lenM s).2 = 0) (hs : byteAt s 0 + 5 ≤ s.size) : rcL (bs s) =
    if bs (sumS (s.extract 1 (1 + byteAt s 0))) ≠ bs (s.extract (1 + byteAt s 0) (1 + byteAt s 0 + 4)) then .inl 3 else match inpM (s.extract 1 (1 + byteAt s 0)) with
      | none => .inl 4
      | some r => .inr ((byteAt (s.extract 1 (1 + byteAt s 0)) 0, r), byteAt s 0 + 5) := by
  obtain ⟨h0, h1, h40, _⟩ := len_ok h
  obtain ⟨t, ht, hl⟩ := bs_cons h0
  have e1 : bs (s.extract 1 (1 + byteAt s 0)) = t.take (byteAt s 0) := by rw [bs_sub, ht, Nat.add_comm 1, List.take_succ_cons, List.drop_succ_cons, List.drop_zero]
  have e2 : bs (s.extract (1 + byteAt s 0) (1 + byteAt s 0 + 4)) = (t.drop (byteAt s 0)).take 4 := by
    rw [bs_sub, ht, show 1 + byteAt s 0 + 4 = (byteAt s 0 + 4) + 1 by omega, List.take_succ_cons, Nat.add_comm 1, List.drop_succ_cons, List.drop_take]
    congr 1; omega
  have hz : (s.extract 1 (1 + byteAt s 0)).size = byteAt s 0 := by rw [ByteArray.size_extract]; omega
  have e3 := ipL_bs (s.extract 1 (1 + byteAt s 0)) (by omega)
  rw [e1] at e3
  rw [← sm_bs, e1, e2]
  generalize byteAt s 0 = n at *
  rw [ht]
  simp only [rcL]
  rw [if_neg (by omega), if_neg (by omega), if_neg (by omega), e3]
  split
  · rfl
  · cases inpM (s.extract 1 (1 + n)) <;> rfl

def RcPost (s : ByteArray) (w : World) (e : Ending) (w' : World) : Prop :=
  Fr (fun _ => False) w w' (fun _ => False) ∧ match rcL (bs s) with
  | .inl y => e = .returned (.tuple #[.agg #[.int .i64 0, .int .i64 0, .int .i64 0, .slice none 0 0], .int .i64 0, .int .i64 y])
  | .inr (x, k) => ∃ a l c, e = .returned (.tuple #[.agg #[.int .i64 x.1, .int .i64 x.2.1, .int .i64 x.2.2.1, .slice a l c], .int .i64 k, .int .i64 0]) ∧ OwnI w' (w.heap.size + 1) (.slice a l c) (zs x.2.2.2)
theorem rcp_no {s : ByteArray} {w w' : World} {y : Nat} {z : Int} (h : rcL (bs s) = .inl y) (hz : z = y) (hf : Fr (fun _ => False) w w' (fun _ => False)) : RcPost s w (.returned (.tuple #[.agg #[.int .i64 0, .int .i64 0, .int .i64 0, .slice none 0 0], .int .i64 0, .int .i64 z])) w' := by
  unfold RcPost; rw [h]; subst hz; exact ⟨hf, rfl⟩
theorem rcp_yes {s : ByteArray} {w w' : World} {x : Inp} {k : Nat} {z0 z1 z2 z3 : Int} {a : Option Addr} {l c : Nat} (h : rcL (bs s) = .inr (x, k)) (h0 : z0 = x.1) (h1 : z1 = x.2.1) (h2 : z2 = x.2.2.1) (h3 : z3 = k) (hr : OwnI w' (w.heap.size + 1) (.slice a l c) (zs x.2.2.2)) (hf : Fr (fun _ => False) w w' (fun _ => False)) : RcPost s w (.returned (.tuple #[.agg #[.int .i64 z0, .int .i64 z1, .int .i64 z2, .slice a l c], .int .i64 z3, .int .i64 0])) w' := by
  unfold RcPost; rw [h]; subst h0 h1 h2 h3; exact ⟨hf, a, l, c, rfl, hr⟩

set_option maxHeartbeats 1000000 in
set_option maxRecDepth 20000 in
theorem record_no (s : ByteArray) (hs : s.size ≤ 1000000000) (w : World) (h : (lenM s).2 ≠ 0) : Calls Tryz.prog 59 #[.string s] w (RcPost s w) := by
  obtain ⟨y, hy, hl⟩ := rc_len h
  have hc := length_any s hs
  rw [hl] at hc h
  have hne : ((y : Int) != 0) = true := by simpa using h
  have HC := hide hc
  have HY := hide hy
  clear hc hy hl h
  go_enter Tryz.func59, Tryz.ntmps59
  go_wp2_with (go_at_call 99; refine ((unhide HC) _).mono ?_; rintro e w1 ⟨rfl, rfl⟩)
  refine bodyPost_ret (v := .tuple #[.agg #[.int .i64 0, .int .i64 0, .int .i64 0, .slice none 0 0], .int .i64 0, .int .i64 y]) (by simp [results, Tryz.results59, go_sem]) rfl (rcp_no (unhide HY) rfl ((Fr.refl _ w).alloc _))
set_option maxHeartbeats 1000000 in
set_option maxRecDepth 20000 in
theorem record_short (s : ByteArray) (hs : s.size ≤ 1000000000) (w : World) (h : (lenM s).2 = 0) (hn : s.size < byteAt s 0 + 5) : Calls Tryz.prog 59 #[.string s] w (RcPost s w) := by
  have hy := rc_short h hn
  obtain ⟨h0, h1, h40, hl⟩ := len_ok h
  have hc := length_any s hs
  rw [hl] at hc
  have HC := hide hc
  have HY := hide hy
  clear hc hy hl h
  generalize byteAt s 0 = n at *
  have hlt : (s.size : Int) < 1 + (n : Int) + 4 := by omega
  clear hn
  go_enter Tryz.func59, Tryz.ntmps59
  go_wp2_with (go_at_call 99; refine ((unhide HC) _).mono ?_; rintro e w1 ⟨rfl, rfl⟩)
  refine bodyPost_ret (v := .tuple #[.agg #[.int .i64 0, .int .i64 0, .int .i64 0, .slice none 0 0], .int .i64 0, .int .i64 2]) (by simp [results, Tryz.results59, go_sem]) rfl (rcp_no (unhide HY) rfl ((Fr.refl _ w).alloc _))
set_option maxHeartbeats 1000000 in
set_option maxRecDepth 20000 in
theorem record_long (s : ByteArray) (hs : s.size ≤ 1000000000) (w : World) (h : (lenM s).2 = 0) (hn : byteAt s 0 + 5 ≤ s.size) : Calls Tryz.prog 59 #[.string s] w (RcPost s w) := by
  have hy := rc_long h hn
  obtain ⟨h0, h1, h40, hl⟩ := len_ok h
  have hc := length_any s hs
  rw [hl] at hc
  have HC := hide hc
  have HY := hide hy
  clear hc hy hl h
  generalize byteAt s 0 = n at *
  have hlt : ¬ (s.size : Int) < 1 + (n : Int) + 4 := by omega
  have hi1 : (1 : Int) ≤ 1 + (n : Int) := by omega
  have hi2 : 1 + (n : Int) ≤ s.size := by omega
  have hi3 : 1 + (n : Int) ≤ 1 + (n : Int) + 4 := by omega
  have hi4 : 1 + (n : Int) + 4 ≤ s.size := by omega
  have hi5 : (0 : Int) ≤ 1 + (n : Int) := by omega
  have hwr : IntKind.i64.wrap (1 + (n : Int)) = 1 + (n : Int) := by rw [IntKind.wrap_i64]; omega
  go_enter Tryz.func59, Tryz.ntmps59
  go_upto_region 8 with (go_at_call 99; refine ((unhide HC) _).mono ?_; rintro e w1 ⟨rfl, rfl⟩)
  obtain ⟨cap, W1, hcv, hz1, f1, hb1⟩ := bytes_of (s.extract 1 (1 + n)) ((w.alloc (.cells #[.int .i64 0, .int .i64 0, .int .i64 0, .slice none 0 0] 49)).drew)
  have hbz : (s.extract 1 (1 + n)).size = n := by rw [ByteArray.size_extract]; omega
  have h100 := appendSum_any (w := W1) (B := W1.heap.size) (v := .slice none 0 0) (b := ByteArray.empty) (.inl (World.ownsRow_nil _ _ _ _)) hb1 (by omega) (by decide) (Nat.le_refl _)
  have hsz : ((w.alloc (.cells #[.int .i64 0, .int .i64 0, .int .i64 0, .slice none 0 0] 49)).drew).heap.size = w.heap.size + 1 := by show (World.alloc _ _).heap.size = _; simp
  rw [hbz, hsz] at hcv h100
  rw [ByteArray.empty_append] at h100
  have H4 := hide (b4_size (sumZ (s.extract 1 (1 + n)).data.toList))
  change Hid ((sumS (s.extract 1 (1 + n))).size = 4) at H4
  clear hz1 hsz
  have H100 := hide h100
  have H1 := hide ((f1).nilF)
  clear h100 f1 hb1
  go_cut [38] (fun u wc => u = .bool (!((sumS (s.extract 1 (1 + n))).toList == (s.extract (1 + n) (1 + n + 4)).toList)) ∧ Fr (fun _ => False) (w.alloc (.cells #[.int .i64 0, .int .i64 0, .int .i64 0, .slice none 0 0] 49)) wc (fun _ => False))
  case first =>
    refine wp_region_held_drew (S := fun _ => True) (by kernel_rfl) trivial (fun hHeld => ?_)
    refine take_yes (i := 0) (d := 29) (v := ?_) (fuel := 9) rfl rfl (by kernel_rfl) (by kernel_rfl) (by kernel_rfl) (fun _ _ _ h => h) (by rfl) ?_ (by assumption) ?_
    rotate_left
    · intro w hSw; (try dsimp only at hSw); go_simp; try with_reducible rfl
    simp only [List.setIfInBounds_toArray, List.set_cons_zero, List.set_cons_succ]
    refine take_yes (i := 4) (d := 33) (v := ?_) (fuel := 8) rfl rfl (by kernel_rfl) (by kernel_rfl) (by kernel_rfl) (fun _ _ _ h => h) (by rfl) ?_ (by assumption) ?_
    rotate_left
    · intro w hSw; (try dsimp only at hSw); go_simp; try with_reducible rfl
    simp only [List.setIfInBounds_toArray, List.set_cons_zero, List.set_cons_succ]
    refine take_yes (i := 5) (d := 34) (v := ?_) (fuel := 7) rfl rfl (by kernel_rfl) (by kernel_rfl) (by kernel_rfl) (fun _ _ _ h => h) (by rfl) ?_ (by assumption) ?_
    rotate_left
    · intro w hSw; (try dsimp only at hSw); go_simp; try with_reducible rfl
    simp only [List.setIfInBounds_toArray, List.set_cons_zero, List.set_cons_succ]
    refine take_yes (i := 6) (d := 35) (v := ?_) (fuel := 6) rfl rfl (by kernel_rfl) (by kernel_rfl) (by kernel_rfl) (fun _ _ _ h => h) (by rfl) ?_ (by assumption) ?_
    rotate_left
    · intro w hSw; (try dsimp only at hSw); go_simp; try with_reducible rfl
    simp only [List.setIfInBounds_toArray, List.set_cons_zero, List.set_cons_succ]
    refine take_yes (i := 7) (d := 36) (v := ?_) (fuel := 5) rfl rfl (by kernel_rfl) (by kernel_rfl) (by kernel_rfl) (fun _ _ _ h => h) (by rfl) ?_ (by assumption) ?_
    rotate_left
    · intro w hSw; (try dsimp only at hSw); go_simp; try with_reducible rfl
    simp only [List.setIfInBounds_toArray, List.set_cons_zero, List.set_cons_succ]
    refine take_yes (i := 8) (d := 37) (v := ?_) (fuel := 4) rfl rfl (by kernel_rfl) (by kernel_rfl) (by kernel_rfl) (fun _ _ _ h => h) (by rfl) ?_ (by assumption) ?_
    rotate_left
    · intro w hSw; (try dsimp only at hSw); go_simp; try with_reducible rfl
    simp only [List.setIfInBounds_toArray, List.set_cons_zero, List.set_cons_succ]
    refine wpAnyH_ready (rs := [1]) (by kernel_rfl) (by simp) ?_
    refine AllReadyH.cons rfl (fun K hK => ?_) AllReadyH.nil
    go_simp
    refine hK.out _ _ trivial (fun hHeld => ?_)
    clear hK K
    refine wpAnyH_ready (rs := [2]) (by kernel_rfl) (by simp) ?_
    refine AllReadyH.cons rfl (fun K hK => ?_) AllReadyH.nil
    go_simp
    go_at_call 100
    refine (unhide H100).mono ?_
    rintro e w2 ⟨v2, rfl, o2, f2⟩
    obtain ⟨g2, c2, rfl, _, _⟩ := o2.bytes (by rw [unhide H4]; omega)
    have hcv2 := convB (cap := c2) (o2.cells (by rw [unhide H4]; omega))
    have F2 := hide ((unhide H1).trans f2.nil)
    clear o2 f2
    refine hK.out _ _ trivial (fun hHeld => ?_)
    clear hK K
    refine wpAnyH_ready (rs := [3]) (by kernel_rfl) (by simp) ?_
    refine AllReadyH.cons rfl (fun K hK => ?_) AllReadyH.nil
    go_simp
    refine hK.out _ _ trivial (fun hHeld => ?_)
    clear hK K
    refine take_yes (i := 9) (d := 38) (v := ?_) (fuel := 0) rfl rfl (by kernel_rfl) (by kernel_rfl) (by kernel_rfl) (fun _ _ _ h => h) (by rfl) ?_ (by assumption) ?_
    rotate_left
    · intro w hSw; (try dsimp only at hSw); go_simp; try with_reducible rfl
    simp only [List.setIfInBounds_toArray, List.set_cons_zero, List.set_cons_succ]
    refine wpAnyH_done (by kernel_rfl) ?_ _
    go_wp2
    go_meet
    refine ⟨?_, unhide F2⟩
    have e1 : (1 + (n : Int)).toNat = 1 + n := by omega
    have e2 : (1 + (n : Int) + 4).toNat = 1 + n + 4 := by omega
    rw [e1, e2]
  case rest =>
    obtain ⟨rfl, hf⟩ := hcut
    clear hcv H100 H1 H4
    obtain ⟨⟨r0, r1, r2, r3⟩, rz⟩ := resB hf
    have HF := hide hf
    have hwz : w.heap.size < wc.heap.size := by have := hf.size; simp at this; omega
    clear hf
    by_cases hsum : (sumS (s.extract 1 (1 + n))).toList = (s.extract (1 + n) (1 + n + 4)).toList
    · have hy := unhide HY
      rw [if_neg (fun h => h (toList_bs.1 hsum))] at hy
      have hsb : ((sumS (s.extract 1 (1 + n))).toList == (s.extract (1 + n) (1 + n + 4)).toList) = true := by simpa using hsum
      rw [hsb]
      have h101 := input_any (s.extract 1 (1 + n)) (by omega) (by omega) wc
      cases hin : inpM (s.extract 1 (1 + n)) with
      | none =>
        rw [hin] at hy
        have h2 : Calls Tryz.prog 101 #[.string (s.extract 1 (1 + n))] wc fun e w' => ∃ z0 z1 z2 a l c, e = .returned (.tuple #[.agg #[.int .i64 z0, .int .i64 z1, .int .i64 z2, .slice a l c], .bool false]) ∧ Fr (fun _ => False) wc w' (fun _ => False) := h101.mono fun e w' h => by
          unfold InPost at h; rw [hin] at h; obtain ⟨h1, z0, z1, z2, a, l, c, h2⟩ := h; exact ⟨z0, z1, z2, a, l, c, h2, h1⟩
        have H2 := hide h2
        have HY2 := hide hy
        clear h101 h2 hy hsum hsb hin
        go_wp2_with (go_at_call 101; refine (unhide H2).mono ?_; rintro e w3 ⟨z0, z1, z2, a3, l3, c3, rfl, f3⟩; have F3 := hide ((unhide HF).trans f3); obtain ⟨⟨t0, t1, t2, t3⟩, tz⟩ := resB (unhide F3); clear f3)
        have hz3 := ((unhide F3).same w.heap.size (by simp) (fun h => h)).trans (heap_alloc_new w _)
        have g0 := fun j => cell_of_row _ _ j _ 49 (0, 0) (out4 (out4 hz3 (.int .i64 z0) (.int .i64 z1) (.int .i64 z2) (.slice a3 l3 c3)) (.int .i64 0) (.int .i64 0) (.int .i64 0) (.slice none 0 0))
        exact bodyPost_ret (v := .tuple #[.agg #[.int .i64 0, .int .i64 0, .int .i64 0, .slice none 0 0], .int .i64 0, .int .i64 4]) (by simp [results, Tryz.results59, go_sem, g0]) rfl (rcp_no (unhide HY2) rfl (out4_fr (out4_fr (unhide F3).unalloc (.inr (Nat.le_refl _)) _ _ _ _) (.inr (Nat.le_refl _)) _ _ _ _))
      | some r =>
        obtain ⟨o, m, fs⟩ := r
        rw [hin] at hy
        have h2 : Calls Tryz.prog 101 #[.string (s.extract 1 (1 + n))] wc fun e w' => ∃ a l c, e = .returned (.tuple #[.agg #[.int .i64 (byteAt (s.extract 1 (1 + n)) 0), .int .i64 o, .int .i64 m, .slice a l c], .bool true]) ∧ OwnI w' wc.heap.size (.slice a l c) (zs fs) ∧ Fr (fun _ => False) wc w' (fun _ => False) := h101.mono fun e w' h => by
          unfold InPost at h; rw [hin] at h; obtain ⟨h1, a, l, c, h2, h3⟩ := h; exact ⟨a, l, c, h2, h3, h1⟩
        have H2 := hide h2
        have HY2 := hide hy
        clear h101 h2 hy hsum hsb hin
        generalize byteAt (s.extract 1 (1 + n)) 0 = kd at *
        go_wp2_with (go_at_call 101; refine (unhide H2).mono ?_; rintro e w3 ⟨a3, l3, c3, rfl, o3, f3⟩; have O3' := hide o3; have F3 := hide ((unhide HF).trans f3); obtain ⟨⟨t0, t1, t2, t3⟩, tz⟩ := resB (unhide F3); clear f3 o3)
        have hz3 := ((unhide F3).same w.heap.size (by simp) (fun h => h)).trans (heap_alloc_new w _)
        have g0 := fun j => cell_of_row _ _ j _ 49 (0, 0) (out4 (out4 hz3 (.int .i64 kd) (.int .i64 o) (.int .i64 m) (.slice a3 l3 c3)) (.int .i64 kd) (.int .i64 o) (.int .i64 m) (.slice a3 l3 c3))
        refine bodyPost_ret (v := .tuple #[.agg #[.int .i64 kd, .int .i64 o, .int .i64 m, .slice a3 l3 c3], .int .i64 (1 + (n : Int) + 4), .int .i64 0]) (by simp [results, Tryz.results59, go_sem, g0]) rfl (rcp_yes (unhide HY2) rfl rfl rfl (by omega) ?_ (out4_fr (out4_fr (unhide F3).unalloc (.inr (Nat.le_refl _)) _ _ _ _) (.inr (Nat.le_refl _)) _ _ _ _))
        have h3 := unhide O3'
        refine ownsRow_of_block (ownsRow_low h3 (by omega)) (fun q hq => ?_)
        have hq' := (World.ownsRow.lt h3 q hq).1
        have hne' : q ≠ w.heap.size := by omega
        rw [out4_other hne', out4_other hne']
    · have hy := unhide HY
      rw [if_pos (fun h => hsum (toList_bs.2 h))] at hy
      have hsb : ((sumS (s.extract 1 (1 + n))).toList == (s.extract (1 + n) (1 + n + 4)).toList) = false := by simpa using hsum
      rw [hsb]
      have HY2 := hide hy
      clear hy hsum hsb
      go_wp2
      refine bodyPost_ret (v := .tuple #[.agg #[.int .i64 0, .int .i64 0, .int .i64 0, .slice none 0 0], .int .i64 0, .int .i64 3]) (by simp [results, Tryz.results59, go_sem, r0, r1, r2, r3]) rfl (rcp_no (unhide HY2) rfl (out4_fr (unhide HF).unalloc (.inr (Nat.le_refl _)) _ _ _ _))
/-- The reader's record. -/
theorem record_at (s : ByteArray) (hs : s.size ≤ 1000000000) (w : World) : Calls Tryz.prog 59 #[.string s] w (RcPost s w) := by
  by_cases h : (lenM s).2 = 0
  · by_cases hn : s.size < byteAt s 0 + 5
    · exact record_short s hs w h hn
    · exact record_long s hs w h (by omega)
  · exact record_no s hs w h
end Go.Proofs.YtfmbebofllgmoaaGreatDoor
namespace Go.Proofs.YtfmbebofllgmoaaGreatDoor
open Go.RowKit

/-- It hangs not on a loop's record. -/
def NoRec (l : Nat) (R : World → Prop) : Prop := ∀ W r o, R W → W.heap[l]? = some (.loop r) → R (W.putObj l (.loop o))
/-- The two blocks of a loop's book-keeping. -/
def BookAt (D l : Nat) (r : Loop) (W : World) : Prop := W.heap[l]? = some (.loop r) ∧ W.heap[D]? = some (.deferred (some []))

theorem wp_range {α : Type} {P : Program} {n : Nat} {g : Operand} {ps : Array Tmp} {assign body : Code} {Q : Exit → Act → World → Prop} {a : Act} {w : World} {gf : Nat} {lb : Array Value}
    (hg : a.eval g = .func (.func gf) #[] lb) (eg : ∀ args w, (callFunc gf args).run P w = .ok (.enter gf args) w) (encs : α → Array Value) (hps : ∀ x, (encs x).size = ps.size)
    (R R' : α → World → Prop) (Rm : α → Act → World → Prop) (S : World → Prop) (hR' : ∀ x, NoRec (w.heap.size + 1) (R' x)) (hRm : ∀ x b, NoRec (w.heap.size + 1) (Rm x b)) (hS : NoRec (w.heap.size + 1) S)
    (hassign : ∀ (x : α) (W : World) (r : Loop) (K : Act → World → Prop), R x W → BookAt w.heap.size (w.heap.size + 1) r W → (∀ b W', BookAt w.heap.size (w.heap.size + 1) r W' → Rm x b W' → K b W') →
      assign.wpIn (Fence.wide.inRound (w.heap.size + 1)) n P (Exit.then K (fun _ _ _ => False)) { tmps := (ps.zip (encs x)).foldl (fun t (p, v) => t.setIfInBounds p v) a.tmps, defers := [] } W)
    (hbody : ∀ (x : α) (b : Act) (W : World) (r : Loop), Rm x b W → BookAt w.heap.size (w.heap.size + 1) r W → body.wpIn (Fence.wide.inRound (w.heap.size + 1)) n P (fun e _ W' => e = .normal ∧ BookAt w.heap.size (w.heap.size + 1) r W' ∧ R' x W') b W)
    (hiter : ∀ (Bk : World → Prop) (W1 : World), (∀ W, Bk W → ∃ r, BookAt w.heap.size (w.heap.size + 1) r W) → (∀ W W', Bk W → W'.heap[w.heap.size]? = W.heap[w.heap.size]? → W'.heap[w.heap.size + 1]? = W.heap[w.heap.size + 1]? → Bk W') →
      (∀ x W, R x W → Bk W → YieldAt Fence.wide n P (w.heap.size + 1) (encs x) W fun e W' => e = .returned (.bool true) ∧ R' x W' ∧ Bk W') → Bk W1 → (∃ o1 o2, W1 = (w.alloc o1).alloc o2) →
      CallsIn Fence.wide n P gf (#[.func (.yield (w.heap.size + 1)) #[] #[]] ++ lb) W1 fun e W' => (∃ v, e = .returned v) ∧ S W' ∧ Bk W')
    (hdone : ∀ (W : World), S W → W.heap[w.heap.size]? = some (.deferred (some [])) → Q .normal { a with defers := { target := .collected w.heap.size, args := #[] } :: a.defers } W) :
    (Code.rangeFunc g ps assign body).wpIn Fence.wide n P Q a w := by
  refine wpIn_rangeFunc ?_
  intro fn hfn
  obtain ⟨rec, hrec⟩ : ∃ rec : LoopState → Loop, rec = fun st => { state := st, pending := none, fn, tmps := a.tmps, params := ps, assign, body, defers := w.heap.size } := ⟨_, rfl⟩
  obtain ⟨W1, hW1⟩ : ∃ W1, (w.alloc (.deferred (some []))).alloc (.loop (rec .ready)) = W1 := ⟨_, rfl⟩
  have hL1 : W1.heap[w.heap.size + 1]? = some (.loop (rec .ready)) := by
    rw [← hW1]; have := World.alloc_heap_new (w.alloc (.deferred (some []))) (.loop (rec .ready)); rwa [World.size_alloc] at this
  have hK1 : W1.heap[w.heap.size]? = some (.deferred (some [])) := by
    rw [← hW1]; exact (Below.heap_alloc _ _ _ (by simp)).trans (World.alloc_heap_new w _)
  refine ⟨w.heap.size + 1, [{ target := .collected w.heap.size, args := #[] }], W1, { target := .fn (.func gf) lb, args := #[.func (.yield (w.heap.size + 1)) #[] #[]] }, W1, gf,
    #[.func (.yield (w.heap.size + 1)) #[] #[]] ++ lb, W1, ?_, ?_, ?_, ?_, ?_, ?_⟩
  · rw [← hW1, hrec]; exact run_enterLoop_outer _ _ _ _ _
  · simp only [resolve, hg]
    simp [go_sem]
  · intro f' _; exact trivial
  · simp [invoke, go_sem, eg]
  · intro h; cases h
  · refine ((callsIn_wide (n := n - 1)).2 ((callsIn_wide (n := n)).1 (hiter (BookAt w.heap.size (w.heap.size + 1) (rec .ready)) W1 (fun W h => ⟨_, h⟩) (fun W W' h h1 h2 => ⟨h2.trans h.1, h1.trans h.2⟩) ?_ ⟨hL1, hK1⟩ ⟨_, _, hW1.symm⟩))).mono ?_
    · intro x W hr hbk
      have hlt : w.heap.size + 1 < W.heap.size := (Array.getElem?_eq_some_iff.1 hbk.1).1
      have hy := run_yield (P := P) (args := encs x) hbk.1 (by rw [hrec]; exact hps x)
      rw [hrec] at hy
      refine ⟨fn, _, assign, body, hy, roundIn_of_wpIn hfn (hassign x W (rec .ready) _ hr hbk ?_)⟩
      clear hy
      intro b Wa hba hra
      have hlta : w.heap.size + 1 < Wa.heap.size := (Array.getElem?_eq_some_iff.1 hba.1).1
      refine ⟨_, run_beginRound hba.1 (by rw [hrec]), ?_⟩
      have hb2 : BookAt w.heap.size (w.heap.size + 1) (rec .busy) (Wa.putObj (w.heap.size + 1) (.loop (rec .busy))) := ⟨World.putObj_heap_same hlta, (World.putObj_heap_other (by omega)).trans hba.2⟩
      have e2 : ({ rec .ready with state := .busy } : Loop) = rec .busy := by rw [hrec]
      rw [e2]
      refine wpIn_mono (hbody x b _ (rec .busy) (hRm x b Wa _ _ hra hba.1) hb2) ?_
      rintro e b3 W3 ⟨rfl, hb3, hr3⟩
      have hlt3 : w.heap.size + 1 < W3.heap.size := (Array.getElem?_eq_some_iff.1 hb3.1).1
      refine ⟨_, _, run_endRound none hb3.1, rfl, ?_, ?_⟩
      · exact hR' x W3 _ _ hr3 hb3.1
      · have e3 : ({ rec .busy with state := if (none : Option Code).isNone then .ready else .done, pending := none } : Loop) = rec .ready := by rw [hrec]; rfl
        rw [e3]
        exact ⟨World.putObj_heap_same hlt3, (World.putObj_heap_other (by omega)).trans hb3.2⟩
    · rintro e W2 ⟨⟨v, rfl⟩, hS2, hb2⟩
      have hrun := run_endLoop (P := P) hb2.1 (by rw [hrec]; simp)
      have hpn : (rec .ready).pending = none := by rw [hrec]
      rw [hpn] at hrun
      exact ⟨none, _, hrun, hdone _ (hS W2 _ _ hS2 hb2.1) ((World.putObj_heap_other (by omega)).trans hb2.2)⟩
end Go.Proofs.YtfmbebofllgmoaaGreatDoor
namespace Go.Proofs.YtfmbebofllgmoaaGreatDoor
open Go.RowKit

/-- The cells of inputs, each with the value of its files. -/
def flatP : List (Inp × Value) → List Value
  | [] => []
  | p :: r => .int .i64 p.1.1 :: .int .i64 p.1.2.1 :: .int .i64 p.1.2.2.1 :: p.2 :: flatP r
theorem flatP_append (a b : List (Inp × Value)) : flatP (a ++ b) = flatP a ++ flatP b := by
  induction a with
  | nil => rfl
  | cons x r ih => simp [flatP, ih]
/-- The blocks of such a list. -/
def inS (v : Value) (ps : List (Inp × Value)) (q : Nat) : Prop := own v q ∨ ∃ p, p ∈ ps ∧ own p.2 q
structure InsAt (W : World) (B : Nat) (v : Value) (ps : List (Inp × Value)) : Prop where
  row : W.ownsRow B 49 4 v ps.length (flatP ps)
  fl : ∀ p, p ∈ ps → OwnI W B p.2 (zs p.1.2.2.2)
  sep : ∀ p, p ∈ ps → ∀ q, own p.2 q → ¬ own v q
  dis : ps.Pairwise fun p p' => ∀ q, own p.2 q → ¬ own p'.2 q
theorem row_cells {W : World} {B e size n : Nat} {v : Value} {xs : List Value} (h : W.ownsRow B e size v n xs) {q : Nat} (hq : own v q) : ∃ cur, W.heap[q]? = some (.cells cur e (0, 0)) := by
  rcases h.2 with ⟨rfl, _⟩ | ⟨g, cap, cur, rfl, _, hg, _⟩
  · simp [own, Value.ownBlock] at hq
  · simp only [own, Value.ownBlock, Option.some.injEq] at hq
    subst hq
    exact ⟨cur, hg⟩
section
variable {W W' : World} {B : Nat} {v : Value} {ps : List (Inp × Value)}
theorem InsAt.lt (h : InsAt W B v ps) {q : Nat} (hq : inS v ps q) : B ≤ q ∧ q < W.heap.size := by
  rcases hq with hq | ⟨p, hp, hq⟩
  · exact World.ownsRow.lt h.row q hq
  · exact World.ownsRow.lt (h.fl p hp) q hq
theorem InsAt.isCells (h : InsAt W B v ps) {q : Nat} (hq : inS v ps q) : ∃ cur e, W.heap[q]? = some (.cells cur e (0, 0)) := by
  rcases hq with hq | ⟨p, hp, hq⟩
  · obtain ⟨cur, h1⟩ := row_cells h.row hq; exact ⟨cur, _, h1⟩
  · obtain ⟨cur, h1⟩ := row_cells (h.fl p hp) hq; exact ⟨cur, _, h1⟩
theorem InsAt.block (h : InsAt W B v ps) (hb : ∀ q, inS v ps q → W'.heap[q]? = W.heap[q]?) : InsAt W' B v ps :=
  ⟨ownsRow_of_block h.row (fun q hq => hb q (.inl hq)), fun p hp => ownsRow_of_block (h.fl p hp) (fun q hq => hb q (.inr ⟨p, hp, hq⟩)), h.sep, h.dis⟩
theorem InsAt.nil (W : World) (B : Nat) : InsAt W B (.slice none 0 0) [] :=
  ⟨World.ownsRow_nil _ _ _ _, fun _ h => absurd h (by simp), fun _ h => absurd h (by simp), List.Pairwise.nil⟩
theorem inS_nil (q : Nat) : ¬ inS (.slice none 0 0) [] q := by
  rintro (h | ⟨p, hp, _⟩)
  · simp [own, Value.ownBlock] at h
  · simp at hp
theorem InsAt.low {B' : Nat} (h : InsAt W B v ps) (hB : B' ≤ B) : InsAt W B' v ps :=
  ⟨ownsRow_low h.row hB, fun p hp => ownsRow_low (h.fl p hp) hB, h.sep, h.dis⟩
/-- One input is put behind. -/
theorem InsAt.grow (h : InsAt W B v ps) (x : Inp) (fv : Value) (hf : OwnI W B fv (zs x.2.2.2)) (hn : ∀ q, own fv q → ¬ inS v ps q) {w1 : World} {v' : Value} {tmp : Obj}
    (ho : w1.ownsRow B 49 4 v' (ps.length + 1) (flatP ps ++ [.int .i64 x.1, .int .i64 x.2.1, .int .i64 x.2.2.1, fv])) (hg : (W.alloc tmp).grownBy w1 v.ownBlock) (hat : v'.ownBlock = v.ownBlock ∨ v'.ownBlock = some (W.alloc tmp).heap.size) :
    InsAt w1 B v' (ps ++ [(x, fv)]) ∧ (∀ q, inS v' (ps ++ [(x, fv)]) q → inS v ps q ∨ own fv q ∨ W.heap.size ≤ q) := by
  have hv' : ∀ q, own v' q → own v q ∨ q = W.heap.size + 1 := by
    intro q hq
    rcases hat with e | e
    · left; unfold own at hq ⊢; rw [← e]; exact hq
    · right; unfold own at hq; rw [e] at hq; injection hq with hq; simp at hq; omega
  have same : ∀ q, q < W.heap.size → ¬ own v q → w1.heap[q]? = W.heap[q]? := fun q hq hn => (hg.block q (by simp; omega) (fun e => hn e.symm)).trans (Below.heap_alloc _ _ _ hq)
  refine ⟨⟨?_, ?_, ?_, ?_⟩, ?_⟩
  · rw [List.length_append, flatP_append]; exact ho
  · intro p hp
    rcases List.mem_append.1 hp with hp | hp
    · exact ownsRow_of_block (h.fl p hp) (fun q hq => same q (h.lt (.inr ⟨p, hp, hq⟩)).2 (h.sep p hp q hq))
    · rw [List.mem_singleton.1 hp]
      exact ownsRow_of_block hf (fun q hq => same q (World.ownsRow.lt hf q hq).2 (fun e => hn q hq (.inl e)))
  · intro p hp q hq hv
    rcases hv' q hv with e | e
    · rcases List.mem_append.1 hp with hp | hp
      · exact h.sep p hp q hq e
      · rw [List.mem_singleton.1 hp] at hq; exact hn q hq (.inl e)
    · rcases List.mem_append.1 hp with hp | hp
      · have := (h.lt (.inr ⟨p, hp, hq⟩)).2; omega
      · rw [List.mem_singleton.1 hp] at hq; have := (World.ownsRow.lt hf q hq).2; omega
  · refine List.pairwise_append.2 ⟨h.dis, List.pairwise_singleton _ _, ?_⟩
    intro p hp p' hp' q hq hq'
    rw [List.mem_singleton.1 hp'] at hq'
    exact hn q hq' (.inr ⟨p, hp, hq⟩)
  · rintro q (hq | ⟨p, hp, hq⟩)
    · rcases hv' q hq with e | e
      · exact .inl (.inl e)
      · exact .inr (.inr (by omega))
    · rcases List.mem_append.1 hp with hp | hp
      · exact .inl (.inr ⟨p, hp, hq⟩)
      · rw [List.mem_singleton.1 hp] at hq; exact .inr (.inl hq)
end

/-- A log's reader in memory: the variable that holds it, its log, how far it has come, and why it ends. -/
structure RdAt (W : World) (vb rb : Nat) (s : ByteArray) (a y : Int) : Prop where
  v : W.heap[vb]? = some (.cells #[.pointer (some ⟨rb, 0, none⟩)] 80)
  r : W.heap[rb]? = some (.cells #[.string s, .int .i64 a, .int .i64 y] 135)
theorem RdAt.ne {W : World} {vb rb : Nat} {s : ByteArray} {a y : Int} (h : RdAt W vb rb s a y) : vb ≠ rb := by
  intro e; have h1 := h.v; rw [e, h.r] at h1; cases h1
theorem RdAt.block {W W' : World} {vb rb : Nat} {s : ByteArray} {a y : Int} (h : RdAt W vb rb s a y) (h1 : W'.heap[vb]? = W.heap[vb]?) (h2 : W'.heap[rb]? = W.heap[rb]?) : RdAt W' vb rb s a y := ⟨h1.trans h.v, h2.trans h.r⟩
theorem set3 {W : World} {g e : Nat} {c : Array Value} (h : W.heap[g]? = some (.cells c e (0, 0))) (i : Nat) (x : Value) : (W.setCell ⟨g, i, none⟩ x).heap[g]? = some (.cells (c.setIfInBounds i x) e (0, 0)) := by
  have h0 := setRow_heap W g c (c.setIfInBounds i x) e (0, 0) h
  rwa [← setCell_eq_setRow W g i c e (0, 0) x h] at h0

/-- What a reading has come to: the inputs so far lie in a variable's row. -/
structure RdJ (w0 : World) (ib vb rb : Nat) (W : World) (ps : List (Inp × Value)) : Prop where
  fr : Fr (fun _ => False) w0 W (fun _ => False)
  box : ∃ v, W.heap[ib]? = some (.cells #[v] 44) ∧ InsAt W w0.heap.size v ps ∧ ¬ inS v ps ib ∧ ¬ inS v ps vb ∧ ¬ inS v ps rb
  ge : w0.heap.size ≤ ib ∧ w0.heap.size ≤ vb ∧ w0.heap.size ≤ rb
  ne : ib ≠ vb ∧ ib ≠ rb
theorem RdJ.block {w0 W W' : World} {ib vb rb : Nat} {ps : List (Inp × Value)} (h : RdJ w0 ib vb rb W ps) (hf : Fr (fun _ => False) w0 W' (fun _ => False)) (hb : ∀ q, w0.heap.size ≤ q → q < W.heap.size → q ≠ rb → q ≠ vb → (∃ c e, W.heap[q]? = some (.cells c e (0, 0))) → W'.heap[q]? = W.heap[q]?) : RdJ w0 ib vb rb W' ps := by
  obtain ⟨v, h1, h2, h3, h4, h5⟩ := h.box
  refine ⟨hf, ⟨v, ?_, h2.block (fun q hq => ?_), h3, h4, h5⟩, h.ge, h.ne⟩
  · rw [hb ib h.ge.1 (Array.getElem?_eq_some_iff.1 h1).1 h.ne.2 h.ne.1 ⟨_, _, h1⟩]; exact h1
  · obtain ⟨c, e, hc⟩ := h2.isCells hq
    exact hb q (h2.lt hq).1 (h2.lt hq).2 (fun e => h5 (e ▸ hq)) (fun e => h4 (e ▸ hq)) ⟨c, e, hc⟩
end Go.Proofs.YtfmbebofllgmoaaGreatDoor
namespace Go.Proofs.YtfmbebofllgmoaaGreatDoor
open Go.RowKit
attribute [local go_sem ↓] Go.wp_at_zero Go.wp_at_succ

theorem two_allocsD (h : Array Obj) (a b : Obj) : ((h.push a).push b)[h.size]? = some a ∧ ((h.push a).push b)[h.size + 1]? = some b := by
  refine ⟨?_, ?_⟩
  · rw [Array.getElem?_push, if_neg (by simp), Array.getElem?_push, if_pos (by simp)]
  · rw [Array.getElem?_push, if_pos (by simp)]
/-- What is made of a body. -/
def PdPost (s : ByteArray) (w : World) (e : Ending) (w' : World) : Prop :=
  Fr (fun _ => False) w w' (fun _ => False) ∧ match ipL (bs s) with
  | none => ∃ (a b c : Int) (fa : Option Addr) (fn fc : Nat), e = .returned (.tuple #[.agg #[.int .i64 a, .int .i64 b, .int .i64 c, .slice fa fn fc], .bool false])
  | some x => ∃ fv, e = .returned (.tuple #[.agg #[.int .i64 x.1, .int .i64 x.2.1, .int .i64 x.2.2.1, fv], .bool true]) ∧ IntsIn w' fv (zs x.2.2.2) (fun q => w.heap.size ≤ q ∧ q < w'.heap.size)
theorem pd_none {s : ByteArray} {w w' : World} {a b c : Int} {fa : Option Addr} {fn fc : Nat} (h : ipL (bs s) = none) (hf : Fr (fun _ => False) w w' (fun _ => False)) : PdPost s w (.returned (.tuple #[.agg #[.int .i64 a, .int .i64 b, .int .i64 c, .slice fa fn fc], .bool false])) w' := by
  unfold PdPost; rw [h]; exact ⟨hf, a, b, c, fa, fn, fc, rfl⟩
theorem pd_some {s : ByteArray} {w w' : World} {x : Inp} {fv : Value} (h : ipL (bs s) = some x) (hf : Fr (fun _ => False) w w' (fun _ => False)) (hi : IntsIn w' fv (zs x.2.2.2) (fun q => w.heap.size ≤ q ∧ q < w'.heap.size)) : PdPost s w (.returned (.tuple #[.agg #[.int .i64 x.1, .int .i64 x.2.1, .int .i64 x.2.2.1, fv], .bool true])) w' := by
  unfold PdPost; rw [h]; exact ⟨hf, fv, rfl, hi⟩
theorem str_ne {a b : ByteArray} (h : a ≠ b) : ¬ a.toList = b.toList := fun e => h (ByteArray.ext (Array.toList_inj.1 (by rw [Go.ByteArray.toList_eq, Go.ByteArray.toList_eq] at e; exact e)))
theorem cellOf_heap {W W' : World} {g j : Nat} (h : W'.heap[g]? = W.heap[g]?) : W'.cell? ⟨g, j, none⟩ = W.cell? ⟨g, j, none⟩ := by simp only [World.cell?, h]
theorem zs_getD (l : List Nat) (j : Nat) : (zs l).getD j 0 = ((l.getD j 0 : Nat) : Int) := by
  unfold zs
  rw [List.getD_eq_getElem?_getD, List.getD_eq_getElem?_getD, List.getElem?_map]
  cases l[j]? <;> rfl
theorem zs_back : ∀ (l : List Nat), (zs l).map Int.toNat = l
  | [] => rfl
  | x :: r => by
    have h := zs_back r
    show Int.toNat (Int.ofNat x) :: (zs r).map Int.toNat = _
    rw [h]; rfl
theorem setCell_row (W : World) (b j : Nat) (cur : Array Value) (e : Nat) (v : Value) (h : W.heap[b]? = some (.cells cur e (0, 0))) : (W.setCell ⟨b, j, none⟩ v).heap[b]? = some (.cells (cur.setIfInBounds j v) e (0, 0)) := by
  have h0 := setRow_heap W b _ (cur.setIfInBounds j v) e (0, 0) h
  rwa [← setCell_eq_setRow W b j _ e (0, 0) v h] at h0
end Go.Proofs.YtfmbebofllgmoaaGreatDoor
namespace Go.Proofs.YtfmbebofllgmoaaGreatDoor
open Go.RowKit
attribute [local go_sem ↓] Go.wp_at_zero Go.wp_at_succ

/-- Inputs in memory, their files wherever they lie. -/
structure DIns (W : World) (B : Nat) (v : Value) (ps : List (Inp × Value)) : Prop where
  row : W.ownsRow B 49 4 v ps.length (flatP ps)
  fl : ∀ p, p ∈ ps → IntsIn W p.2 (zs p.1.2.2.2) (fun q => B ≤ q ∧ q < W.heap.size ∧ ¬ own v q)
theorem DIns.nil (W : World) (B : Nat) : DIns W B (.slice none 0 0) [] := ⟨World.ownsRow_nil _ _ _ _, fun _ h => absurd h (by simp)⟩
theorem DIns.fr {W W' : World} {B : Nat} {v : Value} {ps : List (Inp × Value)} (h : DIns W B v ps) (hf : Fr (fun _ => False) W W' (fun _ => False)) : DIns W' B v ps :=
  ⟨ownsRow_of_block h.row (fun q hq => hf.same q (World.ownsRow.lt h.row q hq).2 (fun h => h)), fun p hp => intsIn_kept (h.fl p hp) (fun q hq => hf.same q hq.2.1 (fun h => h)) (fun _ hq => ⟨hq.1, Nat.lt_of_lt_of_le hq.2.1 hf.size, hq.2.2⟩)⟩
/-- One more. -/
theorem DIns.grow {W w1 : World} {B : Nat} {v v' : Value} {ps : List (Inp × Value)} (h : DIns W B v ps) (x : Inp) (fv : Value) (hi : IntsIn W fv (zs x.2.2.2) (fun q => B ≤ q ∧ q < W.heap.size ∧ ¬ own v q))
    (ho : w1.ownsRow B 49 4 v' (ps.length + 1) (flatP ps ++ [.int .i64 x.1, .int .i64 x.2.1, .int .i64 x.2.2.1, fv])) (hf : Fr (own v) W w1 (own v')) : DIns w1 B v' (ps ++ [(x, fv)]) := by
  have key : ∀ q, (B ≤ q ∧ q < W.heap.size ∧ ¬ own v q) → (B ≤ q ∧ q < w1.heap.size ∧ ¬ own v' q) := fun q hq => ⟨hq.1, Nat.lt_of_lt_of_le hq.2.1 hf.size, fun h => hq.2.2 (hf.old q hq.2.1 h)⟩
  refine ⟨?_, fun p hp => ?_⟩
  · rw [List.length_append, flatP_append]; exact ho
  · rcases List.mem_append.1 hp with hp | hp
    · exact intsIn_kept (h.fl p hp) (fun q hq => hf.same q hq.2.1 hq.2.2) key
    · rw [List.mem_singleton.1 hp]
      exact intsIn_kept hi (fun q hq => hf.same q hq.2.1 hq.2.2) key
theorem rd_inl (f : Nat) (l : List Nat) (a w : Nat) (h : rcL l = .inl w) : rdL (f + 1) l a = ([], a, w) := by simp only [rdL, h]
theorem rd_end (f : Nat) (l : List Nat) (a : Nat) (x : Inp) (k : Nat) (h : rcL l = .inr (x, k)) (h5 : x.1 = 5) : rdL (f + 1) l a = ([x], a + k, if l.drop k = [] then 1 else 5) := by
  simp only [rdL, h]; rw [if_pos h5]
/-- What comes of a log. -/
def RdPost (s : ByteArray) (w : World) (e : Ending) (w' : World) : Prop :=
  ∃ a c, ∃ ps : List (Inp × Value), e = .returned (.tuple #[.slice a ps.length c, .int .i64 (readL (bs s)).2.1, .int .i64 (readL (bs s)).2.2]) ∧ DIns w' w.heap.size (.slice a ps.length c) ps ∧ ps.map (·.1) = (readL (bs s)).1 ∧ Fr (fun _ => False) w w' (fun _ => False)
def DRel (s : ByteArray) (w : World) (u6 u7 : Value) (wr : World) : Prop :=
  ∃ (at_ f : Nat) (a : Option Addr) (c : Nat) (ps : List (Inp × Value)), u7 = .int .i64 at_ ∧ u6 = .slice a ps.length c ∧ 3 ≤ at_ ∧ at_ ≤ s.size ∧ 2 * ps.length ≤ at_ ∧ s.size < f + at_ ∧ DIns wr w.heap.size (.slice a ps.length c) ps ∧ Fr (fun _ => False) w wr (fun _ => False) ∧
    readL (bs s) = (ps.map (·.1) ++ (rdL f ((bs s).drop at_) at_).1, (rdL f ((bs s).drop at_) at_).2)
theorem rd_post {s : ByteArray} {w wr : World} {at_ f : Nat} {a : Option Addr} {c : Nat} {ps : List (Inp × Value)} {wy : Nat} (h : readL (bs s) = (ps.map (·.1) ++ (rdL f ((bs s).drop at_) at_).1, (rdL f ((bs s).drop at_) at_).2)) (hr : rdL f ((bs s).drop at_) at_ = ([], at_, wy)) (hi : DIns wr w.heap.size (.slice a ps.length c) ps) (hf : Fr (fun _ => False) w wr (fun _ => False)) :
    RdPost s w (.returned (.tuple #[.slice a ps.length c, .int .i64 (at_ : Nat), .int .i64 (wy : Nat)])) wr := by
  rw [hr, List.append_nil] at h
  exact ⟨a, c, ps, by rw [h], hi, by rw [h], hf⟩
theorem elemIn : Elem 44 49 4 48 := elem_of _ _ _ _ (.agg #[.int .i64 0, .int .i64 0, .int .i64 0, .slice none 0 0]) Tryz.underlying44 (by kernel_rfl) rfl

set_option maxHeartbeats 4000000 in
set_option maxRecDepth 20000 in
theorem refRead_any (hpd : ∀ (b : ByteArray), b.size ≤ 100 → ∀ W, Calls Tryz.prog 77 #[.string b] W (PdPost b W)) (s : ByteArray) (hs : s.size ≤ 1900000) (w : World) : Calls Tryz.prog 43 #[.string s] w (RdPost s w) := by
  have HPD := hide hpd
  clear hpd
  by_cases h3 : s.size < 3
  · have h3i : (s.size : Int) < 3 := by omega
    have hn0 : (0 : Int) ≤ (s.size : Int) := by omega
    have hn3 : (s.size : Int) ≤ 3 := by omega
    have hnp : ¬ hd3 <+: bs s := fun h => by have := h.length_le; rw [bs_len] at this; have e3 : hd3.length = 3 := rfl; omega
    obtain ⟨T, hT⟩ : ∃ T, (⟨#[82, 82, 49]⟩ : ByteArray).extract 0 s.size = T := ⟨_, rfl⟩
    have hbT : bs T = hd3.take s.size := by rw [← hT, bs_sub, List.drop_zero]; rfl
    by_cases hh : s = T
    · have hrd : readL (bs s) = ([], 0, 2) := by unfold readL; rw [if_neg hnp, if_pos (by rw [hh, hbT]; exact List.take_prefix _ _)]
      have HP : Hid (RdPost s w (.returned (.tuple #[.slice none 0 0, .int .i64 0, .int .i64 2])) w) := ⟨none, 0, [], by rw [hrd]; rfl, DIns.nil _ _, by rw [hrd]; rfl, Fr.refl _ _⟩
      have hq : (s.toList == T.toList) = true := by rw [hh]; simp
      have hq' : s.toList = T.toList := by rw [hh]
      clear hnp hrd hh hbT
      go_enter Tryz.func43, Tryz.ntmps43
      go_wp2
      exact bodyPost_ret (v := .tuple #[.slice none 0 0, .int .i64 0, .int .i64 2]) (by simp [results, Tryz.results43, go_sem]) rfl (unhide HP)
    · have hrd : readL (bs s) = ([], 0, 4) := by
        unfold readL
        rw [if_neg hnp, if_neg (fun h => hh (bs_inj (by
          rw [hbT]
          have h1 := List.prefix_iff_eq_take.1 h
          rw [bs_len] at h1
          exact h1)))]
      have HP : Hid (RdPost s w (.returned (.tuple #[.slice none 0 0, .int .i64 0, .int .i64 4])) w) := ⟨none, 0, [], by rw [hrd]; rfl, DIns.nil _ _, by rw [hrd]; rfl, Fr.refl _ _⟩
      have hq : (s.toList == T.toList) = false := by simpa using str_ne hh
      have hq' := str_ne hh
      clear hnp hrd hh hbT
      go_enter Tryz.func43, Tryz.ntmps43
      go_wp2
      exact bodyPost_ret (v := .tuple #[.slice none 0 0, .int .i64 0, .int .i64 4]) (by simp [results, Tryz.results43, go_sem]) rfl (unhide HP)
  have h3i : ¬ (s.size : Int) < 3 := by omega
  have h3j : (3 : Int) ≤ (s.size : Int) := by omega
  by_cases hh : s.extract 0 3 = ⟨#[82, 82, 49]⟩
  · have hhd : hd3 <+: bs s := by
      refine ⟨(bs s).drop 3, ?_⟩
      have h := congrArg bs hh
      rw [bs_sub, List.drop_zero] at h
      have e2 : bs ⟨#[82, 82, 49]⟩ = hd3 := rfl
      rw [e2] at h
      rw [← h]; exact List.take_append_drop 3 (bs s)
    have hst : DRel s w (.slice none 0 0) (.int .i64 3) w := ⟨3, s.size + 1, none, 0, [], rfl, rfl, Nat.le_refl _, by omega, Nat.zero_le _, by omega, DIns.nil _ _, Fr.refl _ _, by
      unfold readL; rw [if_pos hhd, bs_len]; rfl⟩
    have HST := hide hst
    have hq : (s.extract 0 3).toList = [82, 82, 49] := by rw [hh, Go.ByteArray.toList_eq]
    clear hst hhd hh
    go_enter Tryz.func43, Tryz.ntmps43
    go_wp2
    go_loopw [6, 7] (fun u6 u7 wr => DRel s w u6 u7 wr) (fun _ u7 _ => s.size - (intOf u7).toNat)
    case atStart => exact unhide HST
    case round =>
      obtain ⟨at_, f, a, c, ps, rfl, rfl, ha3, has, hpl, hfa, hdi, hfr, hrd⟩ := hrel
      have HDI := hide hdi
      have HFR := hide hfr
      have HRD := hide hrd
      clear hdi hfr hrd HST
      by_cases hlt : at_ < s.size
      · have hlti : (at_ : Int) < (s.size : Int) := by omega
        have hai : (0 : Int) ≤ (at_ : Int) := by omega
        have e0 := byteAt_eq s at_ hlt
        have hb := byteAt_lt s at_
        have hdr := bs_drop s at_ hlt
        obtain ⟨n, hn⟩ : ∃ n, byteAt s at_ = n := ⟨_, rfl⟩
        rw [hn] at e0 hb hdr
        have hbn : ((s[at_]'hlt).toNat : Int) = (n : Int) := by rw [e0]
        obtain ⟨f, rfl⟩ : ∃ g, f = g + 1 := ⟨f - 1, by omega⟩
        obtain ⟨t, ht⟩ : ∃ t, (bs s).drop (at_ + 1) = t := ⟨_, rfl⟩
        have htl : t.length + at_ + 1 = s.size := by rw [← ht, List.length_drop, bs_len]; omega
        rw [ht] at hdr
        have HDR := hide hdr
        have HT := hide ht
        have hw1 : IntKind.i64.wrap ((at_ : Int) + 1) = (at_ : Int) + 1 := by rw [IntKind.wrap_i64]; omega
        have post := fun wy (h : rcL (n :: t) = .inl wy) => rd_post (unhide HRD) (by rw [unhide HDR]; exact rd_inl f (n :: t) at_ wy h) (unhide HDI) (unhide HFR)
        have POST := hide post
        have postW := fun (W : World) (hW : Fr (fun _ => False) wr W (fun _ => False)) wy (h : rcL (n :: t) = .inl wy) => rd_post (unhide HRD) (by rw [unhide HDR]; exact rd_inl f (n :: t) at_ wy h) ((unhide HDI).fr hW) ((unhide HFR).trans hW)
        have POSTW := hide postW
        clear postW
        clear e0 hdr ht post hn
        by_cases hlo : n < 1
        · have hloi : (n : Int) < 1 := by omega
          have h128 : ¬ (128 : Int) ≤ (n : Int) := by omega
          have HP := hide (unhide POST 4 (by simp only [rcL]; rw [if_neg (by omega), if_pos (.inl hlo)]))
          go_wp2
          exact bodyPost_ret (v := .tuple #[.slice a ps.length c, .int .i64 at_, .int .i64 4]) (by simp [results, Tryz.results43, go_sem]) rfl (unhide HP)
        have hloi : ¬ (n : Int) < 1 := by omega
        by_cases hhi : 40 < n
        · have hhii : (40 : Int) < (n : Int) := by omega
          by_cases h128 : 128 ≤ n
          · have h128i : (128 : Int) ≤ (n : Int) := by omega
            by_cases hte : t = []
            · have hz : ((at_ : Int) + 1 == (s.size : Int)) = true := by
                rw [hte] at htl
                have : (at_ : Int) + 1 = (s.size : Int) := by simp at htl; omega
                simpa using this
              have HP := hide (unhide POST 2 (by simp only [rcL]; rw [if_pos ⟨h128, hte⟩]))
              clear hte
              go_wp2
              exact bodyPost_ret (v := .tuple #[.slice a ps.length c, .int .i64 at_, .int .i64 2]) (by simp [results, Tryz.results43, go_sem]) rfl (unhide HP)
            · have hz : ((at_ : Int) + 1 == (s.size : Int)) = false := by
                have : t.length ≠ 0 := fun e => hte (List.eq_nil_of_length_eq_zero e)
                have : ¬ (at_ : Int) + 1 = (s.size : Int) := by omega
                simpa using this
              have HP := hide (unhide POST 4 (by simp only [rcL]; rw [if_neg (fun h => hte h.2), if_pos (.inr hhi)]))
              clear hte
              go_wp2
              exact bodyPost_ret (v := .tuple #[.slice a ps.length c, .int .i64 at_, .int .i64 4]) (by simp [results, Tryz.results43, go_sem]) rfl (unhide HP)
          · have h128i : ¬ (128 : Int) ≤ (n : Int) := by omega
            have HP := hide (unhide POST 4 (by simp only [rcL]; rw [if_neg (fun h => h128 h.1), if_pos (.inr hhi)]))
            go_wp2
            exact bodyPost_ret (v := .tuple #[.slice a ps.length c, .int .i64 at_, .int .i64 4]) (by simp [results, Tryz.results43, go_sem]) rfl (unhide HP)
        have hhii : ¬ (40 : Int) < (n : Int) := by omega
        have hc1 : ¬ (128 ≤ n ∧ t = []) := by omega
        have hc2 : ¬ (n < 1 ∨ 40 < n) := by omega
        have hw2 : IntKind.i64.wrap ((at_ : Int) + 1 + (n : Int)) = (at_ : Int) + 1 + (n : Int) := by rw [IntKind.wrap_i64]; omega
        have hw3 : IntKind.i64.wrap ((at_ : Int) + 1 + (n : Int) + 4) = (at_ : Int) + 1 + (n : Int) + 4 := by rw [IntKind.wrap_i64]; omega
        by_cases hsh : t.length < n + 4
        · have hshi : (s.size : Int) < (at_ : Int) + 1 + (n : Int) + 4 := by omega
          have HP := hide (unhide POST 2 (by simp only [rcL]; rw [if_neg hc1, if_neg hc2, if_pos hsh]))
          go_wp2
          exact bodyPost_ret (v := .tuple #[.slice a ps.length c, .int .i64 at_, .int .i64 2]) (by simp [results, Tryz.results43, go_sem]) rfl (unhide HP)
        have hshi : ¬ (s.size : Int) < (at_ : Int) + 1 + (n : Int) + 4 := by omega
        have hw5 : IntKind.i64.wrap ((at_ : Int) + 5) = (at_ : Int) + 5 := by rw [IntKind.wrap_i64]; omega
        have hw6 : IntKind.i64.wrap ((at_ : Int) + 5 + (n : Int)) = (at_ : Int) + 5 + (n : Int) := by rw [IntKind.wrap_i64]; omega
        have t1 : ((at_ : Int) + 1).toNat = at_ + 1 := by omega
        have t2 : ((at_ : Int) + 1 + (n : Int)).toNat = at_ + 1 + n := by omega
        have t3 : ((at_ : Int) + 5 + (n : Int)).toNat = at_ + 5 + n := by omega
        have i1 : (0 : Int) ≤ (at_ : Int) + 1 := by omega
        have i2 : (at_ : Int) + 1 ≤ (at_ : Int) + 1 + (n : Int) := by omega
        have i3 : (at_ : Int) + 1 + (n : Int) ≤ (s.size : Int) := by omega
        have i4 : (0 : Int) ≤ (at_ : Int) + 1 + (n : Int) := by omega
        have i5 : (at_ : Int) + 1 + (n : Int) ≤ (at_ : Int) + 5 + (n : Int) := by omega
        have i6 : (at_ : Int) + 5 + (n : Int) ≤ (s.size : Int) := by omega
        obtain ⟨b, hbb⟩ : ∃ b, s.extract (at_ + 1) (at_ + 1 + n) = b := ⟨_, rfl⟩
        obtain ⟨m, hmm⟩ : ∃ m, s.extract (at_ + 1 + n) (at_ + 5 + n) = m := ⟨_, rfl⟩
        have bb : bs b = t.take n := by
          rw [← hbb, bs_sub, ← unhide HT, List.drop_take]; congr 1; omega
        have bm : bs m = (t.drop n).take 4 := by
          rw [← hmm, bs_sub, ← unhide HT, List.drop_take, List.drop_drop]; congr 1; omega
        have bz : b.size ≤ 40 := by rw [← bs_len, bb, List.length_take]; omega
        have H76 := hide (fun W => sum_any b (by omega) W)
        have BB := hide bb
        have hsum : (sm (t.take n) = (t.drop n).take 4) ↔ m = sumS b := by
          rw [← bb, sm_bs, ← bm]
          exact ⟨fun h => bs_inj h.symm, fun h => by rw [h]⟩
        have HSUM := hide hsum
        obtain ⟨S, hS⟩ : ∃ S, sumS b = S := ⟨_, rfl⟩
        rw [hS] at H76 HSUM
        clear bb bm hsum hS
        by_cases hms : m = S
        · have hrc : rcL (n :: t) = match ipL (t.take n) with
              | none => .inl 4
              | some x => .inr (x, n + 5) := by
            simp only [rcL]; rw [if_neg hc1, if_neg hc2, if_neg hsh, if_neg (fun h => h ((unhide HSUM).2 hms))]
            cases ipL (t.take n) <;> rfl
          rw [← unhide BB] at hrc
          have HRC := hide hrc
          have hq : m.toList = S.toList := by rw [hms]
          clear hms hrc
          go_wp2_with fail
          go_region_with (go_at_call 76; refine (unhide H76 _).mono ?_; rintro e w1 ⟨rfl, f1⟩; have F1 := hide (show Fr (fun _ => False) wr w1 (fun _ => False) from ⟨f1.os, f1.tape, f1.output, f1.size, f1.same, f1.old⟩); clear f1)
          all_goals
            go_wp2_with fail
            go_at_call 77
            refine (unhide HPD b (by omega) _).mono ?_
            rintro e w2 ⟨f2, hm⟩
            have f2' : Fr (fun _ => False) w1 w2 (fun _ => False) := ⟨f2.os, f2.tape, f2.output, f2.size, f2.same, f2.old⟩
            have f12 := (unhide F1).trans f2'
            cases hip : ipL (bs b) with
            | none =>
              rw [hip] at hm
              obtain ⟨x1, x2, x3, fa, fn, fc, rfl⟩ := hm
              have hrc := unhide HRC
              rw [hip] at hrc
              have HP := hide (unhide POSTW (w2.alloc (.cells #[.int .i64 x1, .int .i64 x2, .int .i64 x3, .slice fa fn fc] 49)) (f12.alloc _) 4 hrc)
              clear hip hrc f12 f2 f2'
              go_wp2
              exact bodyPost_ret (v := .tuple #[.slice a ps.length c, .int .i64 at_, .int .i64 4]) (by simp [results, Tryz.results43, go_sem]) rfl (unhide HP)
            | some x =>
              rw [hip] at hm
              obtain ⟨fv, rfl, hints⟩ := hm
              have hrc := unhide HRC
              rw [hip] at hrc
              obtain ⟨xk, xo, xn, xf⟩ := x
              obtain ⟨fa, fc, hfv, _⟩ := id hints
              simp only at hfv
              subst hfv
              have hlow : ∀ q, own (.slice a ps.length c) q → q < wr.heap.size := fun q hq => (World.ownsRow.lt (unhide HDI).row q hq).2
              have hz12 : wr.heap.size ≤ w1.heap.size := (unhide F1).size
              have hz22 : w1.heap.size ≤ w2.heap.size := f2'.size
              have f14 : Fr (fun _ => False) wr ((w2.alloc (.cells #[.int .i64 (xk : Nat), .int .i64 (xo : Nat), .int .i64 (xn : Nat), .slice fa (zs xf).length fc] 49)).alloc (.cells #[.int .i64 (xk : Nat), .int .i64 (xo : Nat), .int .i64 (xn : Nat), .slice fa (zs xf).length fc] 49)) (fun _ => False) := (f12.alloc _).alloc _
              have d4 := (unhide HDI).fr f14
              have hB : w.heap.size ≤ wr.heap.size := (unhide HFR).size
              have i4 : IntsIn ((w2.alloc (.cells #[.int .i64 (xk : Nat), .int .i64 (xo : Nat), .int .i64 (xn : Nat), .slice fa (zs xf).length fc] 49)).alloc (.cells #[.int .i64 (xk : Nat), .int .i64 (xo : Nat), .int .i64 (xn : Nat), .slice fa (zs xf).length fc] 49)) (.slice fa (zs xf).length fc) (zs xf) (fun q => w.heap.size ≤ q ∧ q < ((w2.alloc (.cells #[.int .i64 (xk : Nat), .int .i64 (xo : Nat), .int .i64 (xn : Nat), .slice fa (zs xf).length fc] 49)).alloc (.cells #[.int .i64 (xk : Nat), .int .i64 (xo : Nat), .int .i64 (xn : Nat), .slice fa (zs xf).length fc] 49)).heap.size ∧ ¬ own (.slice a ps.length c) q) :=
                intsIn_kept hints (fun q hq => (Below.heap_alloc _ _ _ (by simp; omega)).trans (Below.heap_alloc _ _ _ hq.2)) (fun q hq => ⟨by have h1 : w1.heap.size ≤ q := hq.1; omega, by have := hq.2; simp; omega, fun ho => by have h1 : w1.heap.size ≤ q := hq.1; have := hlow q ho; omega⟩)
              have nb : ((w2.alloc (.cells #[.int .i64 (xk : Nat), .int .i64 (xo : Nat), .int .i64 (xn : Nat), .slice fa (zs xf).length fc] 49)).alloc (.cells #[.int .i64 (xk : Nat), .int .i64 (xo : Nat), .int .i64 (xn : Nat), .slice fa (zs xf).length fc] 49)).heap[w2.heap.size + 1]? = some (.cells #[.int .i64 (xk : Nat), .int .i64 (xo : Nat), .int .i64 (xn : Nat), .slice fa (zs xf).length fc] 49) := by
                have h := heap_alloc_new (w2.alloc (.cells #[.int .i64 (xk : Nat), .int .i64 (xo : Nat), .int .i64 (xn : Nat), .slice fa (zs xf).length fc] 49)) (.cells #[.int .i64 (xk : Nat), .int .i64 (xo : Nat), .int .i64 (xn : Nat), .slice fa (zs xf).length fc] 49)
                rwa [show (w2.alloc (.cells #[.int .i64 (xk : Nat), .int .i64 (xo : Nat), .int .i64 (xn : Nat), .slice fa (zs xf).length fc] 49)).heap.size = w2.heap.size + 1 by simp] at h
              have n0 : ((w2.alloc (.cells #[.int .i64 (xk : Nat), .int .i64 (xo : Nat), .int .i64 (xn : Nat), .slice fa (zs xf).length fc] 49)).alloc (.cells #[.int .i64 (xk : Nat), .int .i64 (xo : Nat), .int .i64 (xn : Nat), .slice fa (zs xf).length fc] 49)).heap[w2.heap.size]? = some (.cells #[.int .i64 (xk : Nat), .int .i64 (xo : Nat), .int .i64 (xn : Nat), .slice fa (zs xf).length fc] 49) := (Below.heap_alloc _ _ _ (by simp)).trans (heap_alloc_new _ _)
              have hn2 : ¬ own (.slice a ps.length c) w2.heap.size := fun h => by have := hlow _ h; omega
              have D4 := hide d4
              have I4 := hide i4
              have NB := hide nb
              have N0 := hide n0
              have F14 := hide f14
              have HRC2 := hide (show rcL (n :: t) = .inr ((xk, xo, xn, xf), n + 5) from hrc)
              clear hip hrc f12 f2 f2' hints d4 i4 nb n0 f14 hlow
              have hz4 : w.heap.size ≤ ((w2.alloc (.cells #[.int .i64 (xk : Nat), .int .i64 (xo : Nat), .int .i64 (xn : Nat), .slice fa (zs xf).length fc] 49)).alloc (.cells #[.int .i64 (xk : Nat), .int .i64 (xo : Nat), .int .i64 (xn : Nat), .slice fa (zs xf).length fc] 49)).heap.size := by simp; omega
              by_cases hk5 : xk = 5
              · subst hk5
                have fin : ∀ (av : Option Addr) (cv : Nat) (w3 : World), w3.ownsRow w.heap.size 49 4 (.slice av (ps.length + 1) cv) (ps.length + 1) (flatP ps ++ [.int .i64 (5 : Nat), .int .i64 (xo : Nat), .int .i64 (xn : Nat), .slice fa (zs xf).length fc]) → Fr (own (.slice a ps.length c)) ((w2.alloc (.cells #[.int .i64 (5 : Nat), .int .i64 (xo : Nat), .int .i64 (xn : Nat), .slice fa (zs xf).length fc] 49)).alloc (.cells #[.int .i64 (5 : Nat), .int .i64 (xo : Nat), .int .i64 (xn : Nat), .slice fa (zs xf).length fc] 49)) w3 (own (.slice av (ps.length + 1) cv)) → RdPost s w (.returned (.tuple #[.slice av (ps.length + 1) cv, .int .i64 ((at_ : Int) + 5 + (n : Int)), .int .i64 (if at_ + 5 + n < s.size then 5 else 1)])) w3 := fun av cv w3 o3 f3 => by
                  have hdn := (unhide D4).grow (5, xo, xn, xf) (.slice fa (zs xf).length fc) (unhide I4) o3 f3
                  have hfr3 := ((unhide HFR).trans (unhide F14)).fresh f3 (fun k hk => (World.ownsRow.lt (unhide D4).row k hk).1)
                  have hrd := unhide HRD
                  rw [unhide HDR, rd_end f (n :: t) at_ (5, xo, xn, xf) (n + 5) (unhide HRC2) rfl] at hrd
                  have hl : ps.length + 1 = (ps ++ [(((5, xo, xn, xf) : Inp), Value.slice fa (zs xf).length fc)]).length := by rw [List.length_append]; rfl
                  have ed : ((n :: t).drop (n + 5) = []) ↔ ¬ at_ + 5 + n < s.size := by
                    rw [← unhide HDR, List.drop_drop, List.drop_eq_nil_iff, bs_len]; omega
                  refine ⟨av, cv, _, ?_, by rw [← hl]; exact hdn, by rw [hrd, List.map_append]; rfl, hfr3⟩
                  rw [hrd, ← hl]
                  have e1 : (((at_ + (n + 5) : Nat)) : Int) = (at_ : Int) + 5 + (n : Int) := by omega
                  simp only [e1]
                  by_cases hq5 : at_ + 5 + n < s.size
                  · rw [if_pos hq5, if_neg (fun h => (ed.1 h) hq5)]; rfl
                  · rw [if_neg hq5, if_pos (ed.2 hq5)]; rfl
                have FIN := hide fin
                clear fin
                by_cases hend : at_ + 5 + n < s.size
                · have hendi : (at_ : Int) + 5 + (n : Int) < (s.size : Int) := by omega
                  go_wp2_with (at_builtin; refine wpList_grow elemIn (by omega) (by omega) (B := w.heap.size) (n := ps.length) (m := 1) (xs := flatP ps) (news := [.int .i64 (5 : Nat), .int .i64 (xo : Nat), .int .i64 (xn : Nat), .slice fa (zs xf).length fc]) rfl (.tmp 94) (.tmp 96) rfl (ad := ⟨w2.heap.size + 1, 0, none⟩) (cap := 1) rfl rfl (unhide D4).row rfl (World.news_of_block (unhide NB)) (by simp [Value.oneCell']) (by omega) (by omega) hz4 ?_; intro v3 w3 o3 f3 sh3; obtain ⟨av, cv, rfl⟩ := sh3; have kc := (f3.cell w2.heap.size 0 (by simp; omega) hn2).trans (cell_of_row _ _ 0 _ 49 (0, 0) (unhide N0)); have O3 := hide o3; have F3 := hide f3; clear o3 f3)
                  have h := unhide FIN av cv w3 (unhide O3) (unhide F3)
                  rw [if_pos hend] at h
                  exact bodyPost_ret (v := .tuple #[.slice av (ps.length + 1) cv, .int .i64 ((at_ : Int) + 5 + (n : Int)), .int .i64 5]) (by simp [results, Tryz.results43, go_sem]) rfl h
                · have hendi : ¬ (at_ : Int) + 5 + (n : Int) < (s.size : Int) := by omega
                  go_wp2_with (at_builtin; refine wpList_grow elemIn (by omega) (by omega) (B := w.heap.size) (n := ps.length) (m := 1) (xs := flatP ps) (news := [.int .i64 (5 : Nat), .int .i64 (xo : Nat), .int .i64 (xn : Nat), .slice fa (zs xf).length fc]) rfl (.tmp 94) (.tmp 96) rfl (ad := ⟨w2.heap.size + 1, 0, none⟩) (cap := 1) rfl rfl (unhide D4).row rfl (World.news_of_block (unhide NB)) (by simp [Value.oneCell']) (by omega) (by omega) hz4 ?_; intro v3 w3 o3 f3 sh3; obtain ⟨av, cv, rfl⟩ := sh3; have kc := (f3.cell w2.heap.size 0 (by simp; omega) hn2).trans (cell_of_row _ _ 0 _ 49 (0, 0) (unhide N0)); have O3 := hide o3; have F3 := hide f3; clear o3 f3)
                  have h := unhide FIN av cv w3 (unhide O3) (unhide F3)
                  rw [if_neg hend] at h
                  exact bodyPost_ret (v := .tuple #[.slice av (ps.length + 1) cv, .int .i64 ((at_ : Int) + 5 + (n : Int)), .int .i64 1]) (by simp [results, Tryz.results43, go_sem]) rfl h
              · have hk5i : ((xk : Int) == 5) = false := by simp; omega
                go_wp2_with (at_builtin; refine wpList_grow elemIn (by omega) (by omega) (B := w.heap.size) (n := ps.length) (m := 1) (xs := flatP ps) (news := [.int .i64 (xk : Nat), .int .i64 (xo : Nat), .int .i64 (xn : Nat), .slice fa (zs xf).length fc]) rfl (.tmp 94) (.tmp 96) rfl (ad := ⟨w2.heap.size + 1, 0, none⟩) (cap := 1) rfl rfl (unhide D4).row rfl (World.news_of_block (unhide NB)) (by simp [Value.oneCell']) (by omega) (by omega) hz4 ?_; intro v3 w3 o3 f3 sh3; obtain ⟨av, cv, rfl⟩ := sh3; have kc := (f3.cell w2.heap.size 0 (by simp; omega) hn2).trans (cell_of_row _ _ 0 _ 49 (0, 0) (unhide N0)); have O3 := hide o3; have F3 := hide f3; clear o3 f3)
                have hdn := (unhide D4).grow (xk, xo, xn, xf) (.slice fa (zs xf).length fc) (unhide I4) (unhide O3) (unhide F3)
                refine ⟨⟨at_ + 5 + n, f, av, cv, ps ++ [((xk, xo, xn, xf), .slice fa (zs xf).length fc)], rfl, by rw [List.length_append]; rfl, by omega, by omega, by rw [List.length_append]; simp; omega, by omega, by rw [List.length_append]; exact hdn, ((unhide HFR).trans (unhide F14)).fresh (unhide F3) (fun k hk => (World.ownsRow.lt (unhide D4).row k hk).1), ?_⟩, by simp [intOf]; omega⟩
                rw [unhide HRD, unhide HDR, rdL_step f (n :: t) at_ (xk, xo, xn, xf) (n + 5) (unhide HRC2) hk5]
                have ed : (n :: t).drop (n + 5) = (bs s).drop (at_ + 5 + n) := by rw [← unhide HDR, List.drop_drop]; congr 1; omega
                rw [ed, show at_ + (n + 5) = at_ + 5 + n by omega, List.map_append, List.append_assoc]
                rfl
        · have hq := str_ne hms
          have hq2 : (m.toList == S.toList) = false := by simpa using hq
          have HP := hide (fun W hW => unhide POSTW W hW 3 (by simp only [rcL]; rw [if_neg hc1, if_neg hc2, if_neg hsh, if_pos (fun h => hms ((unhide HSUM).1 h))]))
          clear hms
          go_wp2_with fail
          go_region_with (go_at_call 76; refine (unhide H76 _).mono ?_; rintro e w1 ⟨rfl, f1⟩; have F1 := hide (show Fr (fun _ => False) wr w1 (fun _ => False) from ⟨f1.os, f1.tape, f1.output, f1.size, f1.same, f1.old⟩); clear f1)
          all_goals
            go_wp2
            exact bodyPost_ret (v := .tuple #[.slice a ps.length c, .int .i64 at_, .int .i64 3]) (by simp [results, Tryz.results43, go_sem]) rfl (unhide HP _ (unhide F1))
      · have hlti : ¬ (at_ : Int) < (s.size : Int) := by omega
        have hr : rdL f ((bs s).drop at_) at_ = ([], at_, 2) := by
          rw [bs_end s at_ (by omega)]
          cases f with
          | zero => rfl
          | succ f => rfl
        have HP := hide (rd_post (unhide HRD) hr (unhide HDI) (unhide HFR))
        clear hr
        go_wp2
        exact bodyPost_ret (v := .tuple #[.slice a ps.length c, .int .i64 at_, .int .i64 2]) (by simp [results, Tryz.results43, go_sem]) rfl (unhide HP)
  · have hnp : ¬ hd3 <+: bs s := by
      rintro ⟨r, hr⟩
      apply hh
      apply bs_inj
      rw [bs_sub, List.drop_zero, ← hr]
      rfl
    have hnq : ¬ bs s <+: hd3 := by
      intro h
      have h1 := h.length_le
      rw [bs_len] at h1
      have e3 : hd3.length = 3 := rfl
      have h2 : s.size = 3 := by omega
      have h4 : bs s = hd3 := h.eq_of_length (by rw [bs_len, e3, h2])
      exact hnp (by rw [h4]; exact List.prefix_refl _)
    have hrd : readL (bs s) = ([], 0, 4) := by unfold readL; rw [if_neg hnp, if_neg hnq]
    have HP : Hid (RdPost s w (.returned (.tuple #[.slice none 0 0, .int .i64 0, .int .i64 4])) w) := ⟨none, 0, [], by rw [hrd]; rfl, DIns.nil _ _, by rw [hrd]; rfl, Fr.refl _ _⟩
    have hq : ((s.extract 0 3).toList == [82, 82, 49]) = false := by
      have h := str_ne hh
      rw [show (⟨#[82, 82, 49]⟩ : ByteArray).toList = [82, 82, 49] by rw [Go.ByteArray.toList_eq]] at h
      simpa using h
    clear hnp hnq hrd hh
    go_enter Tryz.func43, Tryz.ntmps43
    go_wp2
    exact bodyPost_ret (v := .tuple #[.slice none 0 0, .int .i64 0, .int .i64 4]) (by simp [results, Tryz.results43, go_sem]) rfl (unhide HP)
end Go.Proofs.YtfmbebofllgmoaaGreatDoor
namespace Go.Proofs.YtfmbebofllgmoaaGreatDoor
open Go.RowKit
attribute [local go_sem ↓] Go.wp_at_zero Go.wp_at_succ

/-! ### What it is -/
/-! ### It is right -/
/-! ### How it lies -/
abbrev Hr := Value × List O3
/-- The program as it grows. -/
structure P1 (w : World) (B sb pb : Nat) (wr : World) (vt vf : Value) (tv fv : List Hr) : Prop where
  fr : Fr (fun _ => False) w wr (fun _ => False)
  pb_ : wr.heap[pb]? = some (.cells #[.slice (some ⟨sb, 0, none⟩) 4 4, vt, vf] 33)
  pbB : w.heap.size ≤ pb
  st : wr.heap[sb]? = some (.cells #[.int .i64 1, .int .i64 0, .int .i64 3, .int .i64 3, .int .i64 0, .int .i64 0, .int .i64 5, .int .i64 1, .int .i64 0, .int .i64 5, .int .i64 2, .int .i64 0] 70)
  sbB : w.heap.size ≤ sb ∧ sb < B
  tm : wr.ownsRow w.heap.size 31 1 vt tv.length (tv.map (·.1))
  fm : wr.ownsRow w.heap.size 31 1 vf fv.length (fv.map (·.1))
  th : ∀ p, p ∈ tv → wr.ownsRow B 70 3 p.1 p.2.length (flatE p.2)
  fh : ∀ p, p ∈ fv → wr.ownsRow B 70 3 p.1 p.2.length (flatE p.2)
  sep : ∀ q, own vt q → ¬ own vf q
end Go.Proofs.YtfmbebofllgmoaaGreatDoor
namespace Go.Proofs.YtfmbebofllgmoaaGreatDoor
open Go.RowKit
attribute [local go_sem ↓] Go.wp_at_zero Go.wp_at_succ

/-! ### What it is -/
/-! ### How it lies -/
abbrev Br := Value × List Int
structure W1 (w : World) (wb : Nat) (wr : World) (v0 v1 p2 p3 : Value) (lc : List Int) (bt : List Br) : Prop where
  fr : Fr (fun _ => False) w wr (fun _ => False)
  wb_ : wr.heap[wb]? = some (.cells #[v0, v1, p2, p3] 29)
  wbB : w.heap.size ≤ wb
  cl : OwnI wr w.heap.size v0 lc
  bm : wr.ownsRow w.heap.size 26 1 v1 bt.length (bt.map (·.1))
  bh : ∀ b, b ∈ bt → OwnI wr w.heap.size b.1 b.2
theorem row_d {W : World} {B e size n : Nat} {v : Value} {xs : List Value} (h : W.ownsRow B e size v n xs) {q : Nat} (hq : own v q) : ∃ cur, W.heap[q]? = some (.cells cur e (0, 0)) := by
  rcases h.2 with ⟨rfl, _⟩ | ⟨g, cap, cur, rfl, _, hg, _⟩
  · simp [own, Value.ownBlock] at hq
  · simp only [own, Value.ownBlock, Option.some.injEq] at hq
    subst hq
    exact ⟨cur, hg⟩
end Go.Proofs.YtfmbebofllgmoaaGreatDoor
namespace Go.Proofs.YtfmbebofllgmoaaGreatDoor
open Go.RowKit
attribute [local go_sem ↓] Go.wp_at_zero Go.wp_at_succ

theorem three (h : Array Obj) (a b c : Obj) : (((h.push a).push b).push c)[h.size]? = some a ∧ (((h.push a).push b).push c)[h.size + 1]? = some b ∧ (((h.push a).push b).push c)[h.size + 2]? = some c := by
  refine ⟨?_, ?_, ?_⟩
  · rw [Array.getElem?_push, if_neg (by simp; omega), Array.getElem?_push, if_neg (by simp), Array.getElem?_push, if_pos (by simp)]
  · rw [Array.getElem?_push, if_neg (by simp), Array.getElem?_push, if_pos (by simp)]
  · rw [Array.getElem?_push, if_pos (by simp)]

end Go.Proofs.YtfmbebofllgmoaaGreatDoor
namespace Go.Proofs.YtfmbebofllgmoaaGreatDoor
open Go.RowKit

/-! ### What is read fits -/
theorem rcL_fit {l : List Nat} (hb : ∀ x, x ∈ l → x < 256) {x : Inp} {k : Nat} (h : rcL l = .inr (x, k)) : Fit x := by
  cases l with
  | nil => simp [rcL] at h
  | cons n t =>
    simp only [rcL] at h
    split at h
    · cases h
    split at h
    · cases h
    split at h
    · cases h
    split at h
    · cases h
    split at h
    · cases h
    · rename_i y hy
      injection h with h
      injection h with h1 h2
      subst h1
      exact ((ipL_iff _ (fun z hz => hb z (List.mem_cons_of_mem _ (List.mem_of_mem_take hz))) y).1 hy).1
theorem rdL_fit : ∀ (f : Nat) (l : List Nat) (a : Nat), (∀ x, x ∈ l → x < 256) → ∀ x, x ∈ (rdL f l a).1 → Fit x
  | 0, _, _, _, x, h => by simp [rdL] at h
  | f + 1, l, a, hb, x, h => by
    simp only [rdL] at h
    cases hr : rcL l with
    | inl w => rw [hr] at h; simp at h
    | inr q =>
      obtain ⟨y, k⟩ := q
      rw [hr] at h
      simp only at h
      split at h
      · rw [List.mem_singleton.1 h]; exact rcL_fit hb hr
      · rcases List.mem_cons.1 h with h | h
        · rw [h]; exact rcL_fit hb hr
        · exact rdL_fit f _ _ (fun z hz => hb z (List.mem_of_mem_drop hz)) x h
theorem readL_fit (s : ByteArray) : ∀ x, x ∈ (readL (bs s)).1 → Fit x := by
  intro x h
  unfold readL at h
  split at h
  · exact rdL_fit _ _ _ (fun z hz => bs_lt s z (List.mem_of_mem_drop hz)) x h
  · split at h <;> simp at h
/-- What a log may be heard as. -/
def rdV (s : ByteArray) : VL := ⟨(readL (bs s)).1, readL_fit s⟩

/-! ### The source in memory -/
/-! ### It is made -/
theorem flatP_get : ∀ (ps : List (Inp × Value)) (i : Nat) (p : Inp × Value), ps[i]? = some p → (flatP ps)[i * 4]? = some (.int .i64 p.1.1) ∧ (flatP ps)[i * 4 + 1]? = some (.int .i64 p.1.2.1) ∧ (flatP ps)[i * 4 + 2]? = some (.int .i64 p.1.2.2.1) ∧ (flatP ps)[i * 4 + 3]? = some p.2
  | [], i, p, h => by simp at h
  | x :: r, 0, p, h => by
    simp at h
    subst h
    exact ⟨rfl, rfl, rfl, rfl⟩
  | x :: r, i + 1, p, h => by
    have hr := flatP_get r i p (by simpa using h)
    have e : ∀ j, (flatP (x :: r))[(i + 1) * 4 + j]? = (flatP r)[i * 4 + j]? := fun j => by
      rw [show (i + 1) * 4 + j = (i * 4 + j) + 4 by omega]; rfl
    exact ⟨(e 0).trans hr.1, (e 1).trans hr.2.1, (e 2).trans hr.2.2.1, (e 3).trans hr.2.2.2⟩
theorem row_cell {W : World} {B e size n : Nat} {v : Value} {xs : List Value} (h : W.ownsRow B e size v n xs) (hn : 0 < n) : ∃ g c, v = .slice (some ⟨g, 0, none⟩) n c ∧ B ≤ g ∧ g < W.heap.size ∧ ∀ j u, xs[j]? = some u → W.cell? ⟨g, j, none⟩ = some u := by
  rcases h.2 with ⟨_, h0⟩ | ⟨g, cap, cur, hv, hB, hg, h1, h2, h3, h4⟩
  · omega
  · refine ⟨g, cap, hv, hB, (Array.getElem?_eq_some_iff.1 hg).1, fun j u hj => ?_⟩
    rw [cell_of_row W g j cur e (0, 0) hg]
    have hlt := (List.getElem?_eq_some_iff.1 hj).1
    rw [← h4, List.getElem?_take_of_lt (by rw [← h4, List.length_take] at hlt; omega)] at hj
    simpa using hj
end Go.Proofs.YtfmbebofllgmoaaGreatDoor
namespace Go.Proofs.YtfmbebofllgmoaaGreatDoor
open Go.RowKit
attribute [local go_sem ↓] Go.wp_at_zero Go.wp_at_succ
attribute [local go_sem] Oper.semAt_some

/-- A round: the inputs so far, the next one and its files, and how far the reader is. -/
structure YA where
  ps : List (Inp × Value)
  x : Inp
  fa : Option Addr
  fl : Nat
  fc : Nat
  pos : Int
  why : Int
def YA.fv (y : YA) : Value := .slice y.fa y.fl y.fc
def YA.enc (y : YA) : Array Value := #[.agg #[.int .i64 y.x.1, .int .i64 y.x.2.1, .int .i64 y.x.2.2.1, .slice y.fa y.fl y.fc]]
/-- As a round begins. -/
structure YR (w0 : World) (ib vb rb : Nat) (s : ByteArray) (y : YA) (W : World) : Prop where
  j : RdJ w0 ib vb rb W y.ps
  r : RdAt W vb rb s y.pos y.why
  f : OwnI W w0.heap.size y.fv (zs y.x.2.2.2)
  n : ∀ q, own y.fv q → q ≠ ib ∧ q ≠ vb ∧ q ≠ rb ∧ ∀ v, W.heap[ib]? = some (.cells #[v] 44) → ¬ inS v y.ps q
  m : y.ps.length ≤ 1000000000
/-- As it has ended. -/
def YE (w0 : World) (ib vb rb : Nat) (s : ByteArray) (y : YA) (W : World) : Prop := RdJ w0 ib vb rb W (y.ps ++ [(y.x, y.fv)]) ∧ RdAt W vb rb s y.pos y.why

theorem Fr.to {w w' : World} (h : Fr (fun _ => False) w w' (fun _ => False)) (S : Nat → Prop) : Fr S w w' S := ⟨h.os, h.tape, h.output, h.size, fun k hk _ => h.same k hk (fun h => h), fun _ _ h => h⟩
theorem RdAt.cells {W : World} {vb rb : Nat} {s : ByteArray} {a y : Int} (h : RdAt W vb rb s a y) : W.cell? ⟨vb, 0, none⟩ = some (.pointer (some ⟨rb, 0, none⟩)) ∧ W.cell? ⟨rb, 0, none⟩ = some (.string s) ∧ W.cell? ⟨rb, 1, none⟩ = some (.int .i64 a) ∧ W.cell? ⟨rb, 2, none⟩ = some (.int .i64 y) ∧ (∀ j, W.frozen? ⟨rb, j, none⟩ = false) :=
  ⟨cell_of_row _ _ 0 _ 80 (0, 0) h.v, cell_of_row _ _ 0 _ 135 (0, 0) h.r, cell_of_row _ _ 1 _ 135 (0, 0) h.r, cell_of_row _ _ 2 _ 135 (0, 0) h.r, fun j => frozen_rowE h.r j⟩
theorem RdAt.set1 {W : World} {vb rb : Nat} {s : ByteArray} {a y : Int} (h : RdAt W vb rb s a y) (a' : Int) : RdAt (W.setCell ⟨rb, 1, none⟩ (.int .i64 a')) vb rb s a' y :=
  ⟨(Below.heap_setCell _ _ _ _ h.ne).trans h.v, set3 h.r 1 _⟩
theorem RdAt.set2 {W : World} {vb rb : Nat} {s : ByteArray} {a y : Int} (h : RdAt W vb rb s a y) (y' : Int) : RdAt (W.setCell ⟨rb, 2, none⟩ (.int .i64 y')) vb rb s a y' :=
  ⟨(Below.heap_setCell _ _ _ _ h.ne).trans h.v, set3 h.r 2 _⟩
theorem RdAt.drew {W : World} {vb rb : Nat} {s : ByteArray} {a y : Int} (h : RdAt W vb rb s a y) : RdAt W.drew vb rb s a y := ⟨h.v, h.r⟩

/-- The loop's state: what is read so far, and what is still to come. -/
def LRel (w0 : World) (ib vb rb : Nat) (s : ByteArray) (Bk : World → Prop) (k : Nat) (W : World) : Prop :=
  ∃ (ps : List (Inp × Value)) (a y : Nat), RdJ w0 ib vb rb W ps ∧ RdAt W vb rb s a y ∧ Bk W ∧ ps.length ≤ a ∧
    ((y = 0 ∧ a ≤ s.size ∧ s.size - a < k ∧ (ps.map (·.1) ++ (rdL (((bs s).drop a).length + 1) ((bs s).drop a) a).1, (rdL (((bs s).drop a).length + 1) ((bs s).drop a) a).2) = readL (bs s)) ∨ (y ≠ 0 ∧ (ps.map (·.1), a, y) = readL (bs s)))

section
variable {w0 : World} {ib vb rb : Nat} {s : ByteArray} {l n : Nat} {Bk : World → Prop}
theorem read_begin (s : ByteArray) : ∃ a y : Nat, begM s = ((a : Int), (y : Int)) ∧ ((y = 0 ∧ a ≤ s.size ∧ ((rdL (((bs s).drop a).length + 1) ((bs s).drop a) a).1, (rdL (((bs s).drop a).length + 1) ((bs s).drop a) a).2) = readL (bs s)) ∨ (y ≠ 0 ∧ (([] : List Inp), a, y) = readL (bs s))) := by
  unfold begM readL
  by_cases h1 : hd3 <+: bs s
  · rw [if_pos h1, if_pos h1]
    have hl := h1.length_le
    rw [bs_len] at hl
    have h3 : hd3.length = 3 := rfl
    refine ⟨3, 0, rfl, .inl ⟨rfl, by omega, ?_⟩⟩
    rw [rdL_more ((bs s).length + 1) (((bs s).drop 3).length + 1) ((bs s).drop 3) 3 (by rw [List.length_drop]; omega) (by omega)]
  · rw [if_neg h1, if_neg h1]
    by_cases h2 : bs s <+: hd3
    · rw [if_pos h2, if_pos h2]; exact ⟨0, 2, rfl, .inr ⟨by omega, rfl⟩⟩
    · rw [if_neg h2, if_neg h2]; exact ⟨0, 4, rfl, .inr ⟨by omega, rfl⟩⟩
/-- A store into the reader leaves the rest. -/
theorem RdJ.reader {w0 W W' : World} {ib vb rb : Nat} {ps : List (Inp × Value)} (h : RdJ w0 ib vb rb W ps) (hf : Fr (fun k => k = rb) W W' (fun k => k = rb)) : RdJ w0 ib vb rb W' ps := by
  have hg := h.ge.2.2
  refine h.block ⟨hf.os.trans h.fr.os, hf.tape.trans h.fr.tape, hf.output.trans h.fr.output, Nat.le_trans h.fr.size hf.size, fun k hk _ => (hf.same k (Nat.lt_of_lt_of_le hk h.fr.size) (fun e => by omega)).trans (h.fr.same k hk (fun h => h)), fun _ _ h => h⟩ (fun q _ h2 h3 _ _ => hf.same q h2 h3)
theorem lrel_next {s : ByteArray} {ps : List (Inp × Value)} {a k : Nat} {x : Inp} {v : Value} (h : (ps.map (·.1) ++ (rdL (((bs s).drop a).length + 1) ((bs s).drop a) a).1, (rdL (((bs s).drop a).length + 1) ((bs s).drop a) a).2) = readL (bs s)) (hr : rcL ((bs s).drop a) = .inr (x, k)) (h5 : x.1 ≠ 5) :
    ((ps ++ [(x, v)]).map (·.1) ++ (rdL (((bs s).drop (a + k)).length + 1) ((bs s).drop (a + k)) (a + k)).1, (rdL (((bs s).drop (a + k)).length + 1) ((bs s).drop (a + k)) (a + k)).2) = readL (bs s) := by
  have hk := rcL_size _ _ _ hr
  rw [← h, rdL_step _ _ _ _ _ hr h5, List.drop_drop, rdL_more ((bs s).drop a).length (((bs s).drop (a + k)).length + 1) ((bs s).drop (a + k)) (a + k) (by rw [List.length_drop, List.length_drop] at *; omega) (by omega)]
  simp
theorem lrel_end {s : ByteArray} {ps : List (Inp × Value)} {a k z : Nat} {x : Inp} {v : Value} (h : (ps.map (·.1) ++ (rdL (((bs s).drop a).length + 1) ((bs s).drop a) a).1, (rdL (((bs s).drop a).length + 1) ((bs s).drop a) a).2) = readL (bs s)) (hr : rcL ((bs s).drop a) = .inr (x, k)) (h5 : x.1 = 5) (hz : z = if 0 < s.size - (a + k) then 5 else 1) :
    z ≠ 0 ∧ ((ps ++ [(x, v)]).map (·.1), a + k, z) = readL (bs s) := by
  have hl := bs_len s
  refine ⟨by rw [hz]; split <;> omega, ?_⟩
  rw [← h]
  simp only [rdL, hr, h5, if_true, List.drop_drop]
  have e : (if (bs s).drop (a + k) = [] then 1 else 5) = z := by
    rw [hz]
    by_cases hc : 0 < s.size - (a + k)
    · rw [if_neg (fun e => by have := congrArg List.length e; rw [List.length_drop, List.length_nil] at this; omega), if_pos hc]
    · rw [if_pos (List.drop_eq_nil_of_le (by omega)), if_neg hc]
  rw [e]
  simp
theorem yr_of {w0 wr wc W : World} {ib vb rb : Nat} {s : ByteArray} {y : YA} {a0 y0 : Int} (hj : RdJ w0 ib vb rb wr y.ps) (hr0 : RdAt wr vb rb s a0 y0) (hf : Fr (fun k => k = rb) wr W (fun k => k = rb)) (hr : RdAt W vb rb s y.pos y.why)
    (ho : OwnI wc wr.heap.size y.fv (zs y.x.2.2.2)) (hw : ∀ q, q ≠ rb → q < wc.heap.size → W.heap[q]? = wc.heap[q]?) (hm : y.ps.length ≤ 1000000000) : YR w0 ib vb rb s y W := by
  have hvz : vb < wr.heap.size := (Array.getElem?_eq_some_iff.1 hr0.v).1
  have hrz : rb < wr.heap.size := (Array.getElem?_eq_some_iff.1 hr0.r).1
  obtain ⟨v0, h1, h2, h3, h4, h5⟩ := hj.box
  have hiz : ib < wr.heap.size := (Array.getElem?_eq_some_iff.1 h1).1
  have hge : ∀ q, own y.fv q → wr.heap.size ≤ q := fun q hq => (World.ownsRow.lt ho q hq).1
  refine ⟨hj.reader hf, hr, ownsRow_of_block (ownsRow_low ho hj.fr.size) (fun q hq => hw q (by have := hge q hq; omega) (World.ownsRow.lt ho q hq).2), fun q hq => ?_, hm⟩
  have hq' := hge q hq
  refine ⟨by omega, by omega, by omega, fun v hv => ?_⟩
  rw [hf.same ib hiz hj.ne.2, h1] at hv
  injection hv with hv
  injection hv with hv _ _
  have hv0 : v0 = v := by simpa using hv
  intro hin
  have := (h2.lt (hv0 ▸ hin)).2
  omega
set_option maxHeartbeats 1000000 in
set_option maxRecDepth 20000 in
theorem inputs_any (hs : s.size ≤ 1000000000) (hbk : ∀ W, Bk W → ∃ D r, D ≠ l ∧ w0.heap.size ≤ D ∧ w0.heap.size ≤ l ∧ BookAt D l r W ∧ ∀ W', W'.heap[D]? = W.heap[D]? → W'.heap[l]? = W.heap[l]? → Bk W')
    (hY : ∀ (y : YA) W, YR w0 ib vb rb s y W → Bk W → YieldAt Fence.wide n Tryz.prog l y.enc W fun e W' => e = .returned (.bool true) ∧ YE w0 ib vb rb s y W' ∧ Bk W')
    (W1 : World) (a0 y0 : Int) (hr : RdAt W1 vb rb s a0 y0) (hj : RdJ w0 ib vb rb W1 []) (hb : Bk W1) :
    Calls Tryz.prog 57 #[.func (.yield l) #[] #[], .pointer (some ⟨vb, 0, none⟩)] W1 fun e W' => (∃ v, e = .returned v) ∧ (∃ ps, RdJ w0 ib vb rb W' ps ∧ ps.map (·.1) = (readL (bs s)).1 ∧ RdAt W' vb rb s (readL (bs s)).2.1 (readL (bs s)).2.2) ∧ Bk W' := by
  have hbr : ∀ (a y : Int) W W', Bk W → RdAt W vb rb s a y → Fr (fun k => k = rb) W W' (fun k => k = rb) → Bk W' := by
    intro a y W W' h1 h2 h3
    obtain ⟨D, r, _, _, _, hB, hc⟩ := hbk W h1
    have e1 : D ≠ rb := fun e => by have := hB.2; rw [e, h2.r] at this; cases this
    have e2 : l ≠ rb := fun e => by have := hB.1; rw [e, h2.r] at this; cases this
    exact hc W' (h3.same D (Array.getElem?_eq_some_iff.1 hB.2).1 e1) (h3.same l (Array.getElem?_eq_some_iff.1 hB.1).1 e2)
  obtain ⟨c0, c1, c2, c3, cz⟩ := hr.cells
  have hne := hr.ne
  have hne' : rb ≠ vb := Ne.symm hne
  obtain ⟨b1, b2, hbe, hst⟩ := read_begin s
  have hB := begin_any s
  rw [hbe] at hB
  have HB := hide hB
  have HR := hide hr
  have HJ := hide hj
  have HBK := hide hb
  have HST := hide hst
  have HBR := hide hbr
  have HY := hide hY
  have HBB := hide hbk
  clear hr hbe hB hj hb hst hbr hY hbk
  go_enter Tryz.func57, Tryz.ntmps57
  go_upto_region 0 with fail
  go_cut [6] (fun u wc => RdAt wc vb rb s b1 b2 ∧ Fr (fun k => k = rb) W1 wc (fun k => k = rb))
  case first =>
    go_region_held3 (fun w' => w'.cell? ⟨vb, 0, none⟩ = some (.pointer (some ⟨rb, 0, none⟩)) ∧ w'.cell? ⟨rb, 0, none⟩ = some (.string s)) (simp [go_sem, c0, c1]) (first | (go_at_call 58; refine (unhide HB _).mono ?_; rintro e w' ⟨rfl, rfl⟩))
    all_goals (go_wp2_with fail; go_meet; exact ⟨(((unhide HR).set1 b1).set2 b2).drew, ((((Fr.refl (fun k => k = rb) W1).setCell ⟨rb, 1, none⟩ _ (.inl rfl)).setCell ⟨rb, 2, none⟩ _ (.inl rfl))).drew⟩)
  case rest =>
    obtain ⟨hr1, hf1⟩ := hcut
    have hL : LRel w0 ib vb rb s Bk (s.size + 1) wc := by
      refine ⟨[], b1, b2, (unhide HJ).reader hf1, hr1, unhide HBR _ _ _ _ (unhide HBK) (unhide HR) hf1, Nat.zero_le _, ?_⟩
      rcases unhide HST with ⟨h1, h2, h3⟩ | h
      · exact .inl ⟨h1, h2, by omega, h3⟩
      · exact .inr h
    have HL := hide hL
    clear hr1 hf1 hL HST HB HJ HBK HR c0 c1 c2 c3 cz
    go_wp2
    go_loopg [4] (s.size + 1) (fun k u wr => LRel w0 ib vb rb s Bk k wr)
    case atStart => exact unhide HL
    case round =>
      obtain ⟨ps, a, y, qj, qr, qb, hpl, hst⟩ := hrel
      obtain ⟨c0, c1, c2, c3, cz⟩ := qr.cells
      rcases hst with ⟨hy0, ha, hk, hst⟩ | ⟨hy, hst⟩
      · subst hy0
        have hsz : (s.extract a s.size).size = s.size - a := by rw [ByteArray.size_extract]; omega
        have h59 := record_at (s.extract a s.size) (by omega)
        have hbs : bs (s.extract a s.size) = (bs s).drop a := bs_extract s a
        have hi1 : (0 : Int) ≤ (a : Int) := by omega
        have hi2 : (a : Int) ≤ (s.size : Int) := by omega
        have hvz : vb < wr.heap.size := (Array.getElem?_eq_some_iff.1 qr.v).1
        have hrz : rb < wr.heap.size := (Array.getElem?_eq_some_iff.1 qr.r).1
        cases hrc : rcL ((bs s).drop a) with
        | inl w =>
          have hw := rc_why _ _ hrc
          have h59' : ∀ W : World, Calls Tryz.prog 59 #[.string (s.extract a s.size)] W fun e w' => e = .returned (.tuple #[.agg #[.int .i64 0, .int .i64 0, .int .i64 0, .slice none 0 0], .int .i64 0, .int .i64 w]) ∧ Fr (fun _ => False) W w' (fun _ => False) := fun W => (h59 W).mono fun e w' h => by
            unfold RcPost at h; rw [hbs, hrc] at h; exact ⟨h.2, h.1⟩
          have hfin : readL (bs s) = (ps.map (·.1), a, w) := by
            rw [← hst]; simp only [rdL, hrc, List.append_nil]
          have H59 := hide h59'
          have HF := hide hfin
          have hwb : ((w : Int) != 0) = true := by simp; omega
          have QJ := hide qj
          have QR := hide qr
          have QB := hide qb
          clear h59 h59' hst hrc hbs qj qr qb hw hfin hsz
          go_upto_region 2 with fail
          go_cut [3, 4, 5] (fun u3 u4 u5 wc => u5 = .int .i64 w ∧ Fr (fun _ => False) wr wc (fun _ => False))
          case first =>
            refine wp_region_held_drew (S := fun w' => RdAt w' vb rb s (a : Nat) (0 : Nat)) (by kernel_rfl) (unhide QR).drew (fun hHeld => ?_)
            refine take_yes (i := 0) (d := 26) (v := ?_) (fuel := 17) rfl rfl (by kernel_rfl) (by kernel_rfl) (by kernel_rfl) (fun _ _ _ h => h) (by rfl) ?_ (by assumption) ?_
            rotate_left
            · intro w hSw; (try dsimp only at hSw); obtain ⟨d0, d1, d2, d3, dz⟩ := hSw.cells; go_simp; try with_reducible rfl
            simp only [List.setIfInBounds_toArray, List.set_cons_zero, List.set_cons_succ]
            refine take_yes (i := 1) (d := 27) (v := ?_) (fuel := 16) rfl rfl (by kernel_rfl) (by kernel_rfl) (by kernel_rfl) (fun _ _ _ h => h) (by rfl) ?_ (by assumption) ?_
            rotate_left
            · intro w hSw; (try dsimp only at hSw); go_simp; try with_reducible rfl
            simp only [List.setIfInBounds_toArray, List.set_cons_zero, List.set_cons_succ]
            refine take_yes (i := 2) (d := 28) (v := ?_) (fuel := 15) rfl rfl (by kernel_rfl) (by kernel_rfl) (by kernel_rfl) (fun _ _ _ h => h) (by rfl) ?_ (by assumption) ?_
            rotate_left
            · intro w hSw; (try dsimp only at hSw); go_simp; try with_reducible rfl
            simp only [List.setIfInBounds_toArray, List.set_cons_zero, List.set_cons_succ]
            refine take_yes (i := 3) (d := 29) (v := ?_) (fuel := 14) rfl rfl (by kernel_rfl) (by kernel_rfl) (by kernel_rfl) (fun _ _ _ h => h) (by rfl) ?_ (by assumption) ?_
            rotate_left
            · intro w hSw; (try dsimp only at hSw); obtain ⟨d0, d1, d2, d3, dz⟩ := hSw.cells; go_simp; try with_reducible rfl
            simp only [List.setIfInBounds_toArray, List.set_cons_zero, List.set_cons_succ]
            refine take_yes (i := 4) (d := 30) (v := ?_) (fuel := 13) rfl rfl (by kernel_rfl) (by kernel_rfl) (by kernel_rfl) (fun _ _ _ h => h) (by rfl) ?_ (by assumption) ?_
            rotate_left
            · intro w hSw; (try dsimp only at hSw); obtain ⟨d0, d1, d2, d3, dz⟩ := hSw.cells; go_simp; try with_reducible rfl
            simp only [List.setIfInBounds_toArray, List.set_cons_zero, List.set_cons_succ]
            refine take_yes (i := 5) (d := 31) (v := ?_) (fuel := 12) rfl rfl (by kernel_rfl) (by kernel_rfl) (by kernel_rfl) (fun _ _ _ h => h) (by rfl) ?_ (by assumption) ?_
            rotate_left
            · intro w hSw; (try dsimp only at hSw); go_simp; try with_reducible rfl
            simp only [List.setIfInBounds_toArray, List.set_cons_zero, List.set_cons_succ]
            refine take_yes (i := 6) (d := 32) (v := ?_) (fuel := 11) rfl rfl (by kernel_rfl) (by kernel_rfl) (by kernel_rfl) (fun _ _ _ h => h) (by rfl) ?_ (by assumption) ?_
            rotate_left
            · intro w hSw; (try dsimp only at hSw); go_simp; try with_reducible rfl
            simp only [List.setIfInBounds_toArray, List.set_cons_zero, List.set_cons_succ]
            refine take_yes (i := 7) (d := 33) (v := ?_) (fuel := 10) rfl rfl (by kernel_rfl) (by kernel_rfl) (by kernel_rfl) (fun _ _ _ h => h) (by rfl) ?_ (by assumption) ?_
            rotate_left
            · intro w hSw; (try dsimp only at hSw); obtain ⟨d0, d1, d2, d3, dz⟩ := hSw.cells; go_simp; try with_reducible rfl
            simp only [List.setIfInBounds_toArray, List.set_cons_zero, List.set_cons_succ]
            refine take_yes (i := 8) (d := 34) (v := ?_) (fuel := 9) rfl rfl (by kernel_rfl) (by kernel_rfl) (by kernel_rfl) (fun _ _ _ h => h) (by rfl) ?_ (by assumption) ?_
            rotate_left
            · intro w hSw; (try dsimp only at hSw); go_simp; try with_reducible rfl
            simp only [List.setIfInBounds_toArray, List.set_cons_zero, List.set_cons_succ]
            refine wpAnyH_ready (rs := [9, 14]) (by kernel_rfl) (by simp) ?_
            refine AllReadyH.cons rfl (fun K hK => ?_) (AllReadyH.cons rfl (fun K hK => ?_) AllReadyH.nil)
            · go_simp
              go_at_call 59
              refine (unhide H59 _).mono ?_
              rintro e w' ⟨rfl, hf⟩
              have hq' : RdAt w' vb rb s (a : Nat) (0 : Nat) := (unhide QR).drew.block (hf.same vb hvz (fun h => h)) (hf.same rb hrz (fun h => h))
              have hvz' : vb < w'.heap.size := (Array.getElem?_eq_some_iff.1 hq'.v).1
              have hrz' : rb < w'.heap.size := (Array.getElem?_eq_some_iff.1 hq'.r).1
              have HF1 := hide (hf.nilF)
              clear hf
              refine hK.out _ _ hq' (fun hHeld => ?_)
              clear hK K
              refine take_yes (i := 10) (d := 25) (v := ?_) (fuel := 7) rfl rfl (by kernel_rfl) (by kernel_rfl) (by kernel_rfl) (fun _ _ _ h => h) (by rfl) ?_ (by assumption) ?_
              rotate_left
              · intro w hSw; (try dsimp only at hSw); go_simp; try with_reducible rfl
              simp only [List.setIfInBounds_toArray, List.set_cons_zero, List.set_cons_succ]
              refine take_yes (i := 11) (d := 36) (v := ?_) (fuel := 6) rfl rfl (by kernel_rfl) (by kernel_rfl) (by kernel_rfl) (fun _ _ _ h => h) (by rfl) ?_ (by assumption) ?_
              rotate_left
              · intro w hSw; (try dsimp only at hSw); go_simp; try with_reducible rfl
              simp only [List.setIfInBounds_toArray, List.set_cons_zero, List.set_cons_succ]
              refine take_yes (i := 12) (d := 37) (v := ?_) (fuel := 5) rfl rfl (by kernel_rfl) (by kernel_rfl) (by kernel_rfl) (fun _ _ _ h => h) (by rfl) ?_ (by assumption) ?_
              rotate_left
              · intro w hSw; (try dsimp only at hSw); go_simp; try with_reducible rfl
              simp only [List.setIfInBounds_toArray, List.set_cons_zero, List.set_cons_succ]
              refine take_yes (i := 13) (d := 38) (v := ?_) (fuel := 4) rfl rfl (by kernel_rfl) (by kernel_rfl) (by kernel_rfl) (fun _ _ _ h => h) (by rfl) ?_ (by assumption) ?_
              rotate_left
              · intro w hSw; (try dsimp only at hSw); go_simp; try with_reducible rfl
              simp only [List.setIfInBounds_toArray, List.set_cons_zero, List.set_cons_succ]
              refine wpAnyH_ready (rs := [14]) (by kernel_rfl) (by simp) ?_
              refine AllReadyH.cons rfl (fun K hK => ?_) AllReadyH.nil
              go_simp
              refine hK.out _ _ (hq'.block (Below.heap_alloc _ _ _ hvz') (Below.heap_alloc _ _ _ hrz')) (fun hHeld => ?_)
              clear hK K
              refine wpAnyH_ready (rs := [15]) (by kernel_rfl) (by simp) ?_
              refine AllReadyH.cons rfl (fun K hK => ?_) AllReadyH.nil
              go_simp
              refine hK.out _ _ (hq'.block (Below.heap_alloc _ _ _ hvz') (Below.heap_alloc _ _ _ hrz')) (fun hHeld => ?_)
              clear hK K
              refine take_yes (i := 16) (d := 4) (v := ?_) (fuel := 1) rfl rfl (by kernel_rfl) (by kernel_rfl) (by kernel_rfl) (fun _ _ _ h => h) (by rfl) ?_ (by assumption) ?_
              rotate_left
              · intro w hSw; (try dsimp only at hSw); go_simp; try with_reducible rfl
              simp only [List.setIfInBounds_toArray, List.set_cons_zero, List.set_cons_succ]
              refine take_yes (i := 17) (d := 5) (v := ?_) (fuel := 0) rfl rfl (by kernel_rfl) (by kernel_rfl) (by kernel_rfl) (fun _ _ _ h => h) (by rfl) ?_ (by assumption) ?_
              rotate_left
              · intro w hSw; (try dsimp only at hSw); go_simp; try with_reducible rfl
              simp only [List.setIfInBounds_toArray, List.set_cons_zero, List.set_cons_succ]
              refine wpAnyH_done (by kernel_rfl) ?_ _
              go_wp2
              go_meet
              exact ⟨rfl, (unhide HF1).alloc _⟩
            · go_simp
              have hq0 : RdAt (wr.drew.alloc (.cells #[.int .i64 0, .int .i64 0, .int .i64 0, .slice none 0 0] 49)) vb rb s (a : Nat) (0 : Nat) := (unhide QR).drew.block (Below.heap_alloc _ _ _ hvz) (Below.heap_alloc _ _ _ hrz)
              refine hK.out _ _ hq0 (fun hHeld => ?_)
              clear hK K
              refine wpAnyH_ready (rs := [9]) (by kernel_rfl) (by simp) ?_
              refine AllReadyH.cons rfl (fun K hK => ?_) AllReadyH.nil
              go_simp
              go_at_call 59
              refine (unhide H59 _).mono ?_
              rintro e w' ⟨rfl, hf⟩
              have hq' : RdAt w' vb rb s (a : Nat) (0 : Nat) := hq0.block (hf.same vb (by show vb < (World.alloc _ _).heap.size; simp; omega) (fun h => h)) (hf.same rb (by show rb < (World.alloc _ _).heap.size; simp; omega) (fun h => h))
              have hvn : vb ≠ wr.heap.size := by omega
              have hrn : rb ≠ wr.heap.size := by omega
              obtain ⟨⟨r0, r1, r2, r3⟩, rz⟩ := resB (w := wr.drew) hf
              change w'.cell? ⟨wr.heap.size, 0, none⟩ = _ at r0
              change w'.cell? ⟨wr.heap.size, 1, none⟩ = _ at r1
              change w'.cell? ⟨wr.heap.size, 2, none⟩ = _ at r2
              change w'.cell? ⟨wr.heap.size, 3, none⟩ = _ at r3
              change ∀ j, w'.frozen? ⟨wr.heap.size, j, none⟩ = _ at rz
              have hnz : w'.heap[wr.heap.size]? = some (.cells #[.int .i64 0, .int .i64 0, .int .i64 0, .slice none 0 0] 49) := (hf.same wr.heap.size (by show wr.heap.size < (World.alloc _ _).heap.size; simp) (fun h => h)).trans (heap_alloc_new wr.drew _)
              have HNZ := hide hnz
              have HF1 := hide (hf.unalloc.nilF)
              clear hf hnz
              refine hK.out _ _ hq' (fun hHeld => ?_)
              clear hK K
              refine take_yes (i := 10) (d := 25) (v := ?_) (fuel := 6) rfl rfl (by kernel_rfl) (by kernel_rfl) (by kernel_rfl) (fun _ _ _ h => h) (by rfl) ?_ (by assumption) ?_
              rotate_left
              · intro w hSw; (try dsimp only at hSw); go_simp; try with_reducible rfl
              simp only [List.setIfInBounds_toArray, List.set_cons_zero, List.set_cons_succ]
              refine take_yes (i := 11) (d := 36) (v := ?_) (fuel := 5) rfl rfl (by kernel_rfl) (by kernel_rfl) (by kernel_rfl) (fun _ _ _ h => h) (by rfl) ?_ (by assumption) ?_
              rotate_left
              · intro w hSw; (try dsimp only at hSw); go_simp; try with_reducible rfl
              simp only [List.setIfInBounds_toArray, List.set_cons_zero, List.set_cons_succ]
              refine take_yes (i := 12) (d := 37) (v := ?_) (fuel := 4) rfl rfl (by kernel_rfl) (by kernel_rfl) (by kernel_rfl) (fun _ _ _ h => h) (by rfl) ?_ (by assumption) ?_
              rotate_left
              · intro w hSw; (try dsimp only at hSw); go_simp; try with_reducible rfl
              simp only [List.setIfInBounds_toArray, List.set_cons_zero, List.set_cons_succ]
              refine take_yes (i := 13) (d := 38) (v := ?_) (fuel := 3) rfl rfl (by kernel_rfl) (by kernel_rfl) (by kernel_rfl) (fun _ _ _ h => h) (by rfl) ?_ (by assumption) ?_
              rotate_left
              · intro w hSw; (try dsimp only at hSw); go_simp; try with_reducible rfl
              simp only [List.setIfInBounds_toArray, List.set_cons_zero, List.set_cons_succ]
              refine wpAnyH_ready (rs := [15]) (by kernel_rfl) (by simp) ?_
              refine AllReadyH.cons rfl (fun K hK => ?_) AllReadyH.nil
              go_simp
              refine hK.out _ _ (hq'.block (out4_other hvn _ _ _ _) (out4_other hrn _ _ _ _)) (fun hHeld => ?_)
              clear hK K
              refine take_yes (i := 16) (d := 4) (v := ?_) (fuel := 1) rfl rfl (by kernel_rfl) (by kernel_rfl) (by kernel_rfl) (fun _ _ _ h => h) (by rfl) ?_ (by assumption) ?_
              rotate_left
              · intro w hSw; (try dsimp only at hSw); go_simp; try with_reducible rfl
              simp only [List.setIfInBounds_toArray, List.set_cons_zero, List.set_cons_succ]
              refine take_yes (i := 17) (d := 5) (v := ?_) (fuel := 0) rfl rfl (by kernel_rfl) (by kernel_rfl) (by kernel_rfl) (fun _ _ _ h => h) (by rfl) ?_ (by assumption) ?_
              rotate_left
              · intro w hSw; (try dsimp only at hSw); go_simp; try with_reducible rfl
              simp only [List.setIfInBounds_toArray, List.set_cons_zero, List.set_cons_succ]
              refine wpAnyH_done (by kernel_rfl) ?_ _
              go_wp2
              go_meet
              exact ⟨rfl, out4_fr (unhide HF1) (.inr (Nat.le_refl _)) _ _ _ _⟩
          case rest =>
            obtain ⟨rfl, hf⟩ := hcut
            have hq := (unhide QR).block (hf.same vb hvz (fun h => h)) (hf.same rb hrz (fun h => h))
            obtain ⟨d0, d1, d2, d3, dz⟩ := hq.cells
            have HF1 := hide ((hf.to (fun k => k = rb)).setCell ⟨rb, 2, none⟩ (.int .i64 w) (.inl rfl))
            have HQ := hide (hq.set2 w)
            clear hf hq
            go_wp2
            refine bodyPost_ret (results_none rfl _ _ _) rfl ⟨⟨_, rfl⟩, ⟨ps, (unhide QJ).reader (unhide HF1), by rw [unhide HF], by rw [unhide HF]; exact unhide HQ⟩, unhide HBR _ _ _ _ (unhide QB) (unhide QR) (unhide HF1)⟩
        | inr q =>
          obtain ⟨x, k⟩ := q
          have hkz := rcL_size _ _ _ hrc
          rw [List.length_drop, bs_len] at hkz
          have h59' : ∀ W : World, Calls Tryz.prog 59 #[.string (s.extract a s.size)] W fun e w' => ∃ fa fl fc, e = .returned (.tuple #[.agg #[.int .i64 x.1, .int .i64 x.2.1, .int .i64 x.2.2.1, .slice fa fl fc], .int .i64 k, .int .i64 0]) ∧ OwnI w' (W.heap.size + 1) (.slice fa fl fc) (zs x.2.2.2) ∧ Fr (fun _ => False) W w' (fun _ => False) := fun W => (h59 W).mono fun e w' h => by
            unfold RcPost at h; rw [hbs, hrc] at h; obtain ⟨h1, fa, fl, fc, h2, h3⟩ := h; exact ⟨fa, fl, fc, h2, h3, h1⟩
          have H59 := hide h59'
          have HRC := hide hrc
          have HST := hide hst
          have QJ := hide qj
          have QR := hide qr
          have QB := hide qb
          clear h59 h59' hst hrc hbs qj qr qb hsz
          go_upto_region 2 with fail
          go_cut [3, 4, 5] (fun u3 u4 u5 wc => ∃ nb fa fl fc, u3 = .pointer (some ⟨nb, 0, none⟩) ∧ u4 = .int .i64 k ∧ u5 = .int .i64 0 ∧ wc.heap[nb]? = some (.cells #[.int .i64 x.1, .int .i64 x.2.1, .int .i64 x.2.2.1, .slice fa fl fc] 49) ∧ Fr (fun _ => False) wr wc (fun _ => False) ∧ wr.heap.size ≤ nb ∧ OwnI wc wr.heap.size (.slice fa fl fc) (zs x.2.2.2) ∧ ∀ q, own (.slice fa fl fc) q → q ≠ nb)
          case first =>
            refine wp_region_held_drew (S := fun w' => RdAt w' vb rb s (a : Nat) (0 : Nat)) (by kernel_rfl) (unhide QR).drew (fun hHeld => ?_)
            refine take_yes (i := 0) (d := 26) (v := ?_) (fuel := 17) rfl rfl (by kernel_rfl) (by kernel_rfl) (by kernel_rfl) (fun _ _ _ h => h) (by rfl) ?_ (by assumption) ?_
            rotate_left
            · intro w hSw; (try dsimp only at hSw); obtain ⟨d0, d1, d2, d3, dz⟩ := hSw.cells; go_simp; try with_reducible rfl
            simp only [List.setIfInBounds_toArray, List.set_cons_zero, List.set_cons_succ]
            refine take_yes (i := 1) (d := 27) (v := ?_) (fuel := 16) rfl rfl (by kernel_rfl) (by kernel_rfl) (by kernel_rfl) (fun _ _ _ h => h) (by rfl) ?_ (by assumption) ?_
            rotate_left
            · intro w hSw; (try dsimp only at hSw); go_simp; try with_reducible rfl
            simp only [List.setIfInBounds_toArray, List.set_cons_zero, List.set_cons_succ]
            refine take_yes (i := 2) (d := 28) (v := ?_) (fuel := 15) rfl rfl (by kernel_rfl) (by kernel_rfl) (by kernel_rfl) (fun _ _ _ h => h) (by rfl) ?_ (by assumption) ?_
            rotate_left
            · intro w hSw; (try dsimp only at hSw); go_simp; try with_reducible rfl
            simp only [List.setIfInBounds_toArray, List.set_cons_zero, List.set_cons_succ]
            refine take_yes (i := 3) (d := 29) (v := ?_) (fuel := 14) rfl rfl (by kernel_rfl) (by kernel_rfl) (by kernel_rfl) (fun _ _ _ h => h) (by rfl) ?_ (by assumption) ?_
            rotate_left
            · intro w hSw; (try dsimp only at hSw); obtain ⟨d0, d1, d2, d3, dz⟩ := hSw.cells; go_simp; try with_reducible rfl
            simp only [List.setIfInBounds_toArray, List.set_cons_zero, List.set_cons_succ]
            refine take_yes (i := 4) (d := 30) (v := ?_) (fuel := 13) rfl rfl (by kernel_rfl) (by kernel_rfl) (by kernel_rfl) (fun _ _ _ h => h) (by rfl) ?_ (by assumption) ?_
            rotate_left
            · intro w hSw; (try dsimp only at hSw); obtain ⟨d0, d1, d2, d3, dz⟩ := hSw.cells; go_simp; try with_reducible rfl
            simp only [List.setIfInBounds_toArray, List.set_cons_zero, List.set_cons_succ]
            refine take_yes (i := 5) (d := 31) (v := ?_) (fuel := 12) rfl rfl (by kernel_rfl) (by kernel_rfl) (by kernel_rfl) (fun _ _ _ h => h) (by rfl) ?_ (by assumption) ?_
            rotate_left
            · intro w hSw; (try dsimp only at hSw); go_simp; try with_reducible rfl
            simp only [List.setIfInBounds_toArray, List.set_cons_zero, List.set_cons_succ]
            refine take_yes (i := 6) (d := 32) (v := ?_) (fuel := 11) rfl rfl (by kernel_rfl) (by kernel_rfl) (by kernel_rfl) (fun _ _ _ h => h) (by rfl) ?_ (by assumption) ?_
            rotate_left
            · intro w hSw; (try dsimp only at hSw); go_simp; try with_reducible rfl
            simp only [List.setIfInBounds_toArray, List.set_cons_zero, List.set_cons_succ]
            refine take_yes (i := 7) (d := 33) (v := ?_) (fuel := 10) rfl rfl (by kernel_rfl) (by kernel_rfl) (by kernel_rfl) (fun _ _ _ h => h) (by rfl) ?_ (by assumption) ?_
            rotate_left
            · intro w hSw; (try dsimp only at hSw); obtain ⟨d0, d1, d2, d3, dz⟩ := hSw.cells; go_simp; try with_reducible rfl
            simp only [List.setIfInBounds_toArray, List.set_cons_zero, List.set_cons_succ]
            refine take_yes (i := 8) (d := 34) (v := ?_) (fuel := 9) rfl rfl (by kernel_rfl) (by kernel_rfl) (by kernel_rfl) (fun _ _ _ h => h) (by rfl) ?_ (by assumption) ?_
            rotate_left
            · intro w hSw; (try dsimp only at hSw); go_simp; try with_reducible rfl
            simp only [List.setIfInBounds_toArray, List.set_cons_zero, List.set_cons_succ]
            refine wpAnyH_ready (rs := [9, 14]) (by kernel_rfl) (by simp) ?_
            refine AllReadyH.cons rfl (fun K hK => ?_) (AllReadyH.cons rfl (fun K hK => ?_) AllReadyH.nil)
            · go_simp
              go_at_call 59
              refine (unhide H59 _).mono ?_
              rintro e w' ⟨fa, fl, fc, rfl, ho, hf⟩
              have hq' : RdAt w' vb rb s (a : Nat) (0 : Nat) := (unhide QR).drew.block (hf.same vb hvz (fun h => h)) (hf.same rb hrz (fun h => h))
              have hvz' : vb < w'.heap.size := (Array.getElem?_eq_some_iff.1 hq'.v).1
              have hrz' : rb < w'.heap.size := (Array.getElem?_eq_some_iff.1 hq'.r).1
              have HF1 := hide (hf.nilF)
              have HO := hide ho
              clear ho
              clear hf
              refine hK.out _ _ hq' (fun hHeld => ?_)
              clear hK K
              refine take_yes (i := 10) (d := 25) (v := ?_) (fuel := 7) rfl rfl (by kernel_rfl) (by kernel_rfl) (by kernel_rfl) (fun _ _ _ h => h) (by rfl) ?_ (by assumption) ?_
              rotate_left
              · intro w hSw; (try dsimp only at hSw); go_simp; try with_reducible rfl
              simp only [List.setIfInBounds_toArray, List.set_cons_zero, List.set_cons_succ]
              refine take_yes (i := 11) (d := 36) (v := ?_) (fuel := 6) rfl rfl (by kernel_rfl) (by kernel_rfl) (by kernel_rfl) (fun _ _ _ h => h) (by rfl) ?_ (by assumption) ?_
              rotate_left
              · intro w hSw; (try dsimp only at hSw); go_simp; try with_reducible rfl
              simp only [List.setIfInBounds_toArray, List.set_cons_zero, List.set_cons_succ]
              refine take_yes (i := 12) (d := 37) (v := ?_) (fuel := 5) rfl rfl (by kernel_rfl) (by kernel_rfl) (by kernel_rfl) (fun _ _ _ h => h) (by rfl) ?_ (by assumption) ?_
              rotate_left
              · intro w hSw; (try dsimp only at hSw); go_simp; try with_reducible rfl
              simp only [List.setIfInBounds_toArray, List.set_cons_zero, List.set_cons_succ]
              refine take_yes (i := 13) (d := 38) (v := ?_) (fuel := 4) rfl rfl (by kernel_rfl) (by kernel_rfl) (by kernel_rfl) (fun _ _ _ h => h) (by rfl) ?_ (by assumption) ?_
              rotate_left
              · intro w hSw; (try dsimp only at hSw); go_simp; try with_reducible rfl
              simp only [List.setIfInBounds_toArray, List.set_cons_zero, List.set_cons_succ]
              refine wpAnyH_ready (rs := [14]) (by kernel_rfl) (by simp) ?_
              refine AllReadyH.cons rfl (fun K hK => ?_) AllReadyH.nil
              go_simp
              refine hK.out _ _ (hq'.block (Below.heap_alloc _ _ _ hvz') (Below.heap_alloc _ _ _ hrz')) (fun hHeld => ?_)
              clear hK K
              refine wpAnyH_ready (rs := [15]) (by kernel_rfl) (by simp) ?_
              refine AllReadyH.cons rfl (fun K hK => ?_) AllReadyH.nil
              go_simp
              refine hK.out _ _ (hq'.block (Below.heap_alloc _ _ _ hvz') (Below.heap_alloc _ _ _ hrz')) (fun hHeld => ?_)
              clear hK K
              refine take_yes (i := 16) (d := 4) (v := ?_) (fuel := 1) rfl rfl (by kernel_rfl) (by kernel_rfl) (by kernel_rfl) (fun _ _ _ h => h) (by rfl) ?_ (by assumption) ?_
              rotate_left
              · intro w hSw; (try dsimp only at hSw); go_simp; try with_reducible rfl
              simp only [List.setIfInBounds_toArray, List.set_cons_zero, List.set_cons_succ]
              refine take_yes (i := 17) (d := 5) (v := ?_) (fuel := 0) rfl rfl (by kernel_rfl) (by kernel_rfl) (by kernel_rfl) (fun _ _ _ h => h) (by rfl) ?_ (by assumption) ?_
              rotate_left
              · intro w hSw; (try dsimp only at hSw); go_simp; try with_reducible rfl
              simp only [List.setIfInBounds_toArray, List.set_cons_zero, List.set_cons_succ]
              refine wpAnyH_done (by kernel_rfl) ?_ _
              go_wp2
              go_meet
              exact ⟨w'.heap.size, fa, fl, fc, rfl, rfl, rfl, heap_alloc_new _ _, (unhide HF1).alloc _, (unhide HF1).size, ownsRow_of_block (ownsRow_low (unhide HO) (Nat.le_succ _)) (fun q hq => Below.heap_alloc _ _ _ (World.ownsRow.lt (unhide HO) q hq).2), fun q hq => by have := (World.ownsRow.lt (unhide HO) q hq).2; omega⟩
            · go_simp
              have hq0 : RdAt (wr.drew.alloc (.cells #[.int .i64 0, .int .i64 0, .int .i64 0, .slice none 0 0] 49)) vb rb s (a : Nat) (0 : Nat) := (unhide QR).drew.block (Below.heap_alloc _ _ _ hvz) (Below.heap_alloc _ _ _ hrz)
              refine hK.out _ _ hq0 (fun hHeld => ?_)
              clear hK K
              refine wpAnyH_ready (rs := [9]) (by kernel_rfl) (by simp) ?_
              refine AllReadyH.cons rfl (fun K hK => ?_) AllReadyH.nil
              go_simp
              go_at_call 59
              refine (unhide H59 _).mono ?_
              rintro e w' ⟨fa, fl, fc, rfl, ho, hf⟩
              have hq' : RdAt w' vb rb s (a : Nat) (0 : Nat) := hq0.block (hf.same vb (by show vb < (World.alloc _ _).heap.size; simp; omega) (fun h => h)) (hf.same rb (by show rb < (World.alloc _ _).heap.size; simp; omega) (fun h => h))
              have hvn : vb ≠ wr.heap.size := by omega
              have hrn : rb ≠ wr.heap.size := by omega
              obtain ⟨⟨r0, r1, r2, r3⟩, rz⟩ := resB (w := wr.drew) hf
              change w'.cell? ⟨wr.heap.size, 0, none⟩ = _ at r0
              change w'.cell? ⟨wr.heap.size, 1, none⟩ = _ at r1
              change w'.cell? ⟨wr.heap.size, 2, none⟩ = _ at r2
              change w'.cell? ⟨wr.heap.size, 3, none⟩ = _ at r3
              change ∀ j, w'.frozen? ⟨wr.heap.size, j, none⟩ = _ at rz
              have hnz : w'.heap[wr.heap.size]? = some (.cells #[.int .i64 0, .int .i64 0, .int .i64 0, .slice none 0 0] 49) := (hf.same wr.heap.size (by show wr.heap.size < (World.alloc _ _).heap.size; simp) (fun h => h)).trans (heap_alloc_new wr.drew _)
              have HNZ := hide hnz
              have HF1 := hide (hf.unalloc.nilF)
              have HO := hide ho
              clear ho
              clear hf hnz
              refine hK.out _ _ hq' (fun hHeld => ?_)
              clear hK K
              refine take_yes (i := 10) (d := 25) (v := ?_) (fuel := 6) rfl rfl (by kernel_rfl) (by kernel_rfl) (by kernel_rfl) (fun _ _ _ h => h) (by rfl) ?_ (by assumption) ?_
              rotate_left
              · intro w hSw; (try dsimp only at hSw); go_simp; try with_reducible rfl
              simp only [List.setIfInBounds_toArray, List.set_cons_zero, List.set_cons_succ]
              refine take_yes (i := 11) (d := 36) (v := ?_) (fuel := 5) rfl rfl (by kernel_rfl) (by kernel_rfl) (by kernel_rfl) (fun _ _ _ h => h) (by rfl) ?_ (by assumption) ?_
              rotate_left
              · intro w hSw; (try dsimp only at hSw); go_simp; try with_reducible rfl
              simp only [List.setIfInBounds_toArray, List.set_cons_zero, List.set_cons_succ]
              refine take_yes (i := 12) (d := 37) (v := ?_) (fuel := 4) rfl rfl (by kernel_rfl) (by kernel_rfl) (by kernel_rfl) (fun _ _ _ h => h) (by rfl) ?_ (by assumption) ?_
              rotate_left
              · intro w hSw; (try dsimp only at hSw); go_simp; try with_reducible rfl
              simp only [List.setIfInBounds_toArray, List.set_cons_zero, List.set_cons_succ]
              refine take_yes (i := 13) (d := 38) (v := ?_) (fuel := 3) rfl rfl (by kernel_rfl) (by kernel_rfl) (by kernel_rfl) (fun _ _ _ h => h) (by rfl) ?_ (by assumption) ?_
              rotate_left
              · intro w hSw; (try dsimp only at hSw); go_simp; try with_reducible rfl
              simp only [List.setIfInBounds_toArray, List.set_cons_zero, List.set_cons_succ]
              refine wpAnyH_ready (rs := [15]) (by kernel_rfl) (by simp) ?_
              refine AllReadyH.cons rfl (fun K hK => ?_) AllReadyH.nil
              go_simp
              refine hK.out _ _ (hq'.block (out4_other hvn _ _ _ _) (out4_other hrn _ _ _ _)) (fun hHeld => ?_)
              clear hK K
              refine take_yes (i := 16) (d := 4) (v := ?_) (fuel := 1) rfl rfl (by kernel_rfl) (by kernel_rfl) (by kernel_rfl) (fun _ _ _ h => h) (by rfl) ?_ (by assumption) ?_
              rotate_left
              · intro w hSw; (try dsimp only at hSw); go_simp; try with_reducible rfl
              simp only [List.setIfInBounds_toArray, List.set_cons_zero, List.set_cons_succ]
              refine take_yes (i := 17) (d := 5) (v := ?_) (fuel := 0) rfl rfl (by kernel_rfl) (by kernel_rfl) (by kernel_rfl) (fun _ _ _ h => h) (by rfl) ?_ (by assumption) ?_
              rotate_left
              · intro w hSw; (try dsimp only at hSw); go_simp; try with_reducible rfl
              simp only [List.setIfInBounds_toArray, List.set_cons_zero, List.set_cons_succ]
              refine wpAnyH_done (by kernel_rfl) ?_ _
              go_wp2
              go_meet
              have ho := unhide HO
              have hsz1 : ((wr.alloc (.cells #[.int .i64 0, .int .i64 0, .int .i64 0, .slice none 0 0] 49)).drew).heap.size = wr.heap.size + 1 := by show (World.alloc _ _).heap.size = _; simp
              rw [hsz1] at ho
              have hqn : ∀ q, own (.slice fa fl fc) q → q ≠ wr.heap.size := fun q hq => by have := (World.ownsRow.lt ho q hq).1; omega
              exact ⟨wr.heap.size, fa, fl, fc, rfl, rfl, rfl, out4 (unhide HNZ) _ _ _ _, out4_fr (unhide HF1) (.inr (Nat.le_refl _)) _ _ _ _, Nat.le_refl _, ownsRow_of_block (ownsRow_low ho (by omega)) (fun q hq => out4_other (hqn q hq) _ _ _ _), hqn⟩
          case rest =>
            obtain ⟨nb, fa, fl, fc, rfl, rfl, rfl, hnb, hf, hnz, ho, hon⟩ := hcut
            have hq := (unhide QR).block (hf.same vb hvz (fun h => h)) (hf.same rb hrz (fun h => h))
            obtain ⟨d0, d1, d2, d3, dz⟩ := hq.cells
            have e0 : wc.cell? ⟨nb, 0, none⟩ = some (.int .i64 x.1) := cell_of_row _ _ 0 _ 49 (0, 0) hnb
            have e1 : wc.cell? ⟨nb, 1, none⟩ = some (.int .i64 x.2.1) := cell_of_row _ _ 1 _ 49 (0, 0) hnb
            have e2 : wc.cell? ⟨nb, 2, none⟩ = some (.int .i64 x.2.2.1) := cell_of_row _ _ 2 _ 49 (0, 0) hnb
            have e3 : wc.cell? ⟨nb, 3, none⟩ = some (.slice fa fl fc) := cell_of_row _ _ 3 _ 49 (0, 0) hnb
            have hnr : nb ≠ rb := by omega
            have hnr' : rb ≠ nb := by omega
            have hak : (a : Int) + (k : Int) ≤ 1000000000 := by omega
            have hak0 : (0 : Int) ≤ (a : Int) + (k : Int) := by omega
            have hak1 : (a : Int) + (k : Int) ≤ s.size := by omega
            have HQ1 := hide (hq.set1 ((a : Int) + (k : Int)))
            have HF1 := hide ((hf.to (fun k => k = rb)).setCell ⟨rb, 1, none⟩ (.int .i64 ((a : Int) + (k : Int))) (.inl rfl))
            have HO := hide ho
            have HON := hide hon
            have HNB := hide hnb
            clear hf hq ho hon hnb
            by_cases hx5 : x.1 = 5
            · have hxb : ((x.1 : Int) == 5) = true := beq_iff_eq.2 (by omega)
              have HX5 := hide hx5
              clear hx5
              have h60 := behind_any (s.extract (a + k) s.size)
              have hsz2 : (s.extract (a + k) s.size).size = s.size - (a + k) := by rw [ByteArray.size_extract]; omega
              rw [hsz2] at h60
              obtain ⟨z, hz⟩ : ∃ z : Nat, z = if 0 < s.size - (a + k) then 5 else 1 := ⟨_, rfl⟩
              have hzI : (if 0 < s.size - (a + k) then (5 : Int) else 1) = (z : Int) := by rw [hz]; split <;> rfl
              rw [hzI] at h60
              have H60 := hide h60
              have HZ := hide hz
              clear h60 hzI hz hsz2
              go_upto_region 7 with fail
              go_cut [66] (fun u wd => RdAt wd vb rb s ((a : Int) + (k : Int)) z ∧ Fr (fun k => k = rb) (wc.setCell ⟨rb, 1, none⟩ (.int .i64 ((a : Int) + (k : Int)))) wd (fun k => k = rb))
              case first =>
                obtain ⟨g0, g1, g2, g3, gz⟩ := (unhide HQ1).cells
                go_region_held3 (fun w' => w'.cell? ⟨vb, 0, none⟩ = some (.pointer (some ⟨rb, 0, none⟩)) ∧ w'.cell? ⟨rb, 0, none⟩ = some (.string s) ∧ w'.cell? ⟨rb, 1, none⟩ = some (.int .i64 ((a : Int) + (k : Int)))) (simp [go_sem, g0, g1, g2]) (first | (go_at_call 60; refine (unhide H60 _).mono ?_; rintro e w' ⟨rfl, rfl⟩))
                all_goals (go_wp2_with fail; go_meet; exact ⟨((unhide HQ1).set2 z).drew, ((Fr.refl (fun k => k = rb) _).setCell ⟨rb, 2, none⟩ _ (.inl rfl)).drew⟩)
              case rest =>
              obtain ⟨hr4, hf4⟩ := hcut
              have hf5 := (unhide HF1).trans hf4
              have hyr := yr_of (y := ⟨ps, x, fa, fl, fc, (a : Int) + (k : Int), (z : Nat)⟩) (unhide QJ) (unhide QR) hf5 hr4 (unhide HO) (fun q hq hlt => (hf4.same q (by simpa [World.setCell] using hlt) hq).trans (Below.heap_setCell _ _ _ _ hq)) (by show ps.length ≤ _; omega)
              have hbk' := unhide HBR _ _ _ _ (unhide QB) (unhide QR) hf5
              have hnb2 := (hf4.same nb (by simp [World.setCell]; exact (Array.getElem?_eq_some_iff.1 (unhide HNB)).1) hnr).trans ((Below.heap_setCell _ _ _ _ hnr).trans (unhide HNB))
              clear e0 e1 e2 e3
              have e0 : wc.cell? ⟨nb, 0, none⟩ = some (.int .i64 x.1) := cell_of_row _ _ 0 _ 49 (0, 0) hnb2
              have e1 : wc.cell? ⟨nb, 1, none⟩ = some (.int .i64 x.2.1) := cell_of_row _ _ 1 _ 49 (0, 0) hnb2
              have e2 : wc.cell? ⟨nb, 2, none⟩ = some (.int .i64 x.2.2.1) := cell_of_row _ _ 2 _ 49 (0, 0) hnb2
              have e3 : wc.cell? ⟨nb, 3, none⟩ = some (.slice fa fl fc) := cell_of_row _ _ 3 _ 49 (0, 0) hnb2
              clear hr4 hf4 hf5 hnb2
              go_upto_region 8 with fail
              obtain ⟨yfn, ytmps, yas, ybd, hy, hR⟩ := unhide HY _ _ hyr hbk'
              simp only [YA.enc] at hy
              have HRR := hide hR
              clear hyr hR hbk'
              refine (wpIn_wide (n := n + 1)).1 ?_
              gi_wp2
              refine (unhide HRR).mono ?_
              rintro e W3 ⟨rfl, ⟨hj3, hr3⟩, hb3⟩
              have HJ3 := hide hj3
              have HR3 := hide hr3
              have HB3 := hide hb3
              clear hj3 hr3 hb3 hy
              gi_wp2
              go_wp2
              go_roundg (gk - 1)
              case rel => exact ⟨ps ++ [(x, .slice fa fl fc)], a + k, z, unhide HJ3, unhide HR3, unhide HB3, by rw [List.length_append]; simp only [List.length_cons, List.length_nil]; omega, .inr (lrel_end (unhide HST) (unhide HRC) (unhide HX5) (unhide HZ))⟩
              case measure => omega
            · have hxb : ((x.1 : Int) == 5) = false := beq_eq_false_iff_ne.2 (by omega)
              have HX5 := hide hx5
              clear hx5
              go_upto_region 8 with fail
              have hyr := yr_of (y := ⟨ps, x, fa, fl, fc, (a : Int) + (k : Int), (0 : Nat)⟩) (unhide QJ) (unhide QR) (unhide HF1) (unhide HQ1) (unhide HO) (fun q hq _ => Below.heap_setCell _ _ _ _ hq) (by show ps.length ≤ _; omega)
              have hbk' := unhide HBR _ _ _ _ (unhide QB) (unhide QR) (unhide HF1)
              obtain ⟨yfn, ytmps, yas, ybd, hy, hR⟩ := unhide HY _ _ hyr hbk'
              simp only [YA.enc] at hy
              have HRR := hide hR
              clear hyr hR hbk'
              refine (wpIn_wide (n := n + 1)).1 ?_
              gi_wp2
              refine (unhide HRR).mono ?_
              rintro e W3 ⟨rfl, ⟨hj3, hr3⟩, hb3⟩
              have HJ3 := hide hj3
              have HR3 := hide hr3
              have HB3 := hide hb3
              clear hj3 hr3 hb3 hy
              gi_wp2
              go_wp2
              go_roundg (gk - 1)
              case rel => exact ⟨ps ++ [(x, .slice fa fl fc)], a + k, 0, unhide HJ3, unhide HR3, unhide HB3, by rw [List.length_append]; simp only [List.length_cons, List.length_nil]; omega, .inl ⟨rfl, by omega, by omega, lrel_next (unhide HST) (unhide HRC) (unhide HX5)⟩⟩
              case measure => omega
      · have hyb : ((y : Int) == 0) = false := beq_eq_false_iff_ne.2 (by omega)
        have QJ := hide qj
        have QR := hide qr
        have QB := hide qb
        have HS := hide hst
        clear qj qr qb hst hy
        go_wp2
        go_end0
        have e := unhide HS
        refine ⟨⟨_, rfl⟩, ⟨ps, unhide QJ, by rw [← e], by rw [← e]; exact unhide QR⟩, unhide QB⟩
end
end Go.Proofs.YtfmbebofllgmoaaGreatDoor
namespace Go.Proofs.YtfmbebofllgmoaaGreatDoor
open Go.RowKit
attribute [local go_sem ↓] Go.wp_at_zero Go.wp_at_succ
attribute [local go_sem] Oper.semAt_some

theorem newReader_any (s : ByteArray) (w : World) : Calls Tryz.prog 31 #[.string s] w fun e w' => e = .returned (.pointer (some ⟨w.heap.size, 0, none⟩)) ∧ w' = w.alloc (.cells #[.string s, .int .i64 0, .int .i64 0] 135) := by
  go_enter Tryz.func31, Tryz.ntmps31
  go_wp2
  go_ret
  exact ⟨rfl, rfl⟩
theorem inputsF_any (rb : Nat) (w : World) : Calls Tryz.prog 32 #[.pointer (some ⟨rb, 0, none⟩)] w fun e w' => e = .returned (.func (.func 57) #[] #[.pointer (some ⟨w.heap.size, 0, none⟩)]) ∧ w' = w.alloc (.cells #[.pointer (some ⟨rb, 0, none⟩)] 80) := by
  go_enter Tryz.func32, Tryz.ntmps32
  go_wp2
  go_ret
  exact ⟨rfl, rfl⟩
theorem ends_any {rb : Nat} {a y : Int} {w : World} (h1 : w.cell? ⟨rb, 1, none⟩ = some (.int .i64 a)) (h2 : w.cell? ⟨rb, 2, none⟩ = some (.int .i64 y)) : Calls Tryz.prog 33 #[.pointer (some ⟨rb, 0, none⟩)] w fun e w' => e = .returned (.tuple #[.int .i64 a, .int .i64 y]) ∧ w' = w.drew := by
  go_enter Tryz.func33, Tryz.ntmps33
  go_wp2
  go_region
  go_wp2
  refine bodyPost_ret (v := .tuple #[.int .i64 a, .int .i64 y]) (by simp [results, Tryz.results33, go_sem]) rfl ⟨rfl, rfl⟩

section
variable {w0 W : World} {ib vb rb l : Nat} {s : ByteArray} {ps : List (Inp × Value)} {r o : Loop}
theorem RdJ.noRec (h : RdJ w0 ib vb rb W ps) (hl : W.heap[l]? = some (.loop r)) (hz : w0.heap.size ≤ l) : RdJ w0 ib vb rb (W.putObj l (.loop o)) ps := by
  refine h.block ⟨h.fr.os, h.fr.tape, h.fr.output, by simpa using h.fr.size, fun k hk hn => (World.putObj_heap_other (by omega)).trans (h.fr.same k hk hn), fun _ _ h => h⟩ (fun q _ _ _ _ ⟨c, e, hc⟩ => World.putObj_heap_other (fun e' => ?_))
  subst e'
  rw [hl] at hc; cases hc
theorem RdAt.noRec {a y : Int} (h : RdAt W vb rb s a y) (hl : W.heap[l]? = some (.loop r)) : RdAt (W.putObj l (.loop o)) vb rb s a y := by
  refine h.block (World.putObj_heap_other (fun e => ?_)) (World.putObj_heap_other (fun e => ?_))
  · have := h.v; rw [e, hl] at this; cases this
  · have := h.r; rw [e, hl] at this; cases this
theorem YR.noRec {y : YA} (h : YR w0 ib vb rb s y W) (hl : W.heap[l]? = some (.loop r)) (hz : w0.heap.size ≤ l) : YR w0 ib vb rb s y (W.putObj l (.loop o)) := by
  have hi : ib ≠ l := fun e => by obtain ⟨v, h1, _⟩ := h.j.box; rw [e, hl] at h1; cases h1
  refine ⟨h.j.noRec hl hz, h.r.noRec hl, ownsRow_of_block h.f (fun q hq => World.putObj_heap_other (fun e => ?_)), fun q hq => ?_, h.m⟩
  · obtain ⟨c, hc⟩ := row_cells h.f hq; rw [e, hl] at hc; cases hc
  · obtain ⟨n1, n2, n3, n4⟩ := h.n q hq
    exact ⟨n1, n2, n3, fun v hv => n4 v (by rw [World.putObj_heap_other hi] at hv; exact hv)⟩
end
theorem row_shape {W : World} {B e size n : Nat} {v : Value} {xs : List Value} (h : W.ownsRow B e size v n xs) : ∃ a c, v = .slice a n c := by
  rcases h.2 with ⟨h1, h0⟩ | ⟨g, cap, cur, hv, _⟩
  · exact ⟨none, 0, by rw [h0]; exact h1⟩
  · exact ⟨_, _, hv⟩
theorem YR.kept {w0 W W' : World} {ib vb rb : Nat} {s : ByteArray} {y : YA} (h : YR w0 ib vb rb s y W) (hf : Fr (fun _ => False) w0 W' (fun _ => False)) (hb : ∀ q, q < W.heap.size → W'.heap[q]? = W.heap[q]?) : YR w0 ib vb rb s y W' := by
  obtain ⟨v, h1, _⟩ := h.j.box
  refine ⟨h.j.block hf (fun q _ hq _ _ _ => hb q hq), h.r.block (hb _ (Array.getElem?_eq_some_iff.1 h.r.v).1) (hb _ (Array.getElem?_eq_some_iff.1 h.r.r).1), ownsRow_of_block h.f (fun q hq => hb q (World.ownsRow.lt h.f q hq).2), fun q hq => ?_, h.m⟩
  obtain ⟨n1, n2, n3, n4⟩ := h.n q hq
  exact ⟨n1, n2, n3, fun v hv => n4 v (by rw [hb _ (Array.getElem?_eq_some_iff.1 h1).1] at hv; exact hv)⟩
/-- Read's own frame in a round. -/
def tmR (s : ByteArray) (n : Nat) (p : Value) (y : YA) : Array Value := #[.string s, undef, .slice none 0 0, .int .i64 0, .int .i64 0, .pointer (some ⟨n, 0, none⟩), .pointer (some ⟨n + 1, 0, none⟩), p, undef, undef, .string s, .pointer (some ⟨n + 1, 0, none⟩), .pointer (some ⟨n + 1, 0, none⟩), .func (.func 57) #[] #[.pointer (some ⟨n + 1 + 1, 0, none⟩)],
  .agg #[.int .i64 y.x.1, .int .i64 y.x.2.1, .int .i64 y.x.2.2.1, .slice y.fa y.fl y.fc], undef, undef, undef, undef, undef, undef, undef, undef, undef, undef, undef, undef]
/-- Behind the assignment of a round's input. -/
def RdM (w0 : World) (s : ByteArray) (y : YA) (b : Act) (W : World) : Prop :=
  YR w0 w0.heap.size (w0.heap.size + 1 + 1) (w0.heap.size + 1) s y W ∧ ∃ nb, W.heap[nb]? = some (.cells #[.int .i64 y.x.1, .int .i64 y.x.2.1, .int .i64 y.x.2.2.1, .slice y.fa y.fl y.fc] 49) ∧ b = ⟨tmR s w0.heap.size (.pointer (some ⟨nb, 0, none⟩)) y, []⟩
theorem cells_new4 (W : World) (a b c d : Value) (e : Nat) : ∀ j u, [a, b, c, d][j]? = some u → (W.alloc (.cells #[a, b, c, d] e)).cell? (Addr.add ⟨W.heap.size, 0, none⟩ j) = some u := by
  intro j u hj
  have h0 := heap_alloc_new W (.cells #[a, b, c, d] e)
  rcases j with _ | _ | _ | _ | j
  · injection hj with hj; subst hj; exact cell_of_row _ _ 0 _ e (0, 0) h0
  · injection hj with hj; subst hj; exact cell_of_row _ _ 1 _ e (0, 0) h0
  · injection hj with hj; subst hj; exact cell_of_row _ _ 2 _ e (0, 0) h0
  · injection hj with hj; subst hj; exact cell_of_row _ _ 3 _ e (0, 0) h0
  · cases hj
theorem small1 {n : Nat} (h : n ≤ 1000000000) : n + 1 ≤ maxLen := Nat.le_trans (Nat.succ_le_succ h) (by decide)
theorem small48 {n : Nat} (h : n ≤ 1000000000) : (n + 1) * 48 ≤ 140737488355328 := by omega
theorem rbox_kept {w0 W w1 : World} {ib vb rb : Nat} {s : ByteArray} {y : YA} {v : Value} {o : Obj} (h : YR w0 ib vb rb s y W) (hv : W.heap[ib]? = some (.cells #[v] 44)) (hg : (W.alloc o).grownBy w1 v.ownBlock) : w1.cell? ⟨ib, 0, none⟩ = some v ∧ w1.frozen? ⟨ib, 0, none⟩ = false := by
  have hlt := (Array.getElem?_eq_some_iff.1 hv).1
  obtain ⟨v', h1, h2, _⟩ := h.j.box
  rw [hv] at h1
  have e : v' = v := by cases h1; rfl
  subst e
  have hb : w1.heap[ib]? = some (.cells #[v'] 44) := (hg.block ib (by simp; omega) (fun e => by obtain ⟨c, hc⟩ := row_cells h2.row e.symm; rw [hv] at hc; cases hc)).trans ((Below.heap_alloc _ _ _ hlt).trans hv)
  exact ⟨cell_of_row _ _ 0 _ 44 (0, 0) hb, frozen_rowE hb 0⟩
set_option maxHeartbeats 1000000 in
set_option maxRecDepth 20000 in
theorem read_any (s : ByteArray) (hs : s.size ≤ 1000000000) (w : World) : Calls Tryz.prog 16 #[.string s] w fun e w' => ∃ a n c ps, e = .returned (.tuple #[.slice a n c, .int .i64 (readL (bs s)).2.1, .int .i64 (readL (bs s)).2.2]) ∧ InsAt w' w.heap.size (.slice a n c) ps ∧ ps.map (·.1) = (readL (bs s)).1 ∧ Fr (fun _ => False) w w' (fun _ => False) := by
  refine (callsIn_wide (n := 3)).1 ?_
  refine callsIn_of_wp_marks Tryz.func16 rfl trivial ?_ rfl
  simp only [Tryz.ntmps16, List.size_toArray, List.length_cons, List.length_nil, Nat.reduceAdd, Nat.reduceSub, Array.replicate_succ, Array.replicate_zero, List.push_toArray, List.append_toArray, List.nil_append, List.cons_append]
  refine wpIn_wide.2 ?_
  go_wp2_with (first | (go_at_call 31; refine (newReader_any _ _).mono ?_; rintro e w' ⟨rfl, rfl⟩) | (go_at_call 32; refine (inputsF_any _ _).mono ?_; rintro e w' ⟨rfl, rfl⟩))
  obtain ⟨W0, hW0⟩ : ∃ W0, ((w.alloc (.cells #[.slice none 0 0] 44)).alloc (.cells #[.string s, .int .i64 0, .int .i64 0] 135)).alloc (.cells #[.pointer (some ⟨w.heap.size + 1, 0, none⟩)] 80) = W0 := ⟨_, rfl⟩
  obtain ⟨t0, t1, t2⟩ := three w.heap (.cells #[.slice none 0 0] 44) (.cells #[.string s, .int .i64 0, .int .i64 0] 135) (.cells #[.pointer (some ⟨w.heap.size + 1, 0, none⟩)] 80)
  change (((w.alloc _).alloc _).alloc _).heap[_]? = _ at t0 t1 t2
  rw [hW0] at t0 t1 t2 ⊢
  have hz0 : W0.heap.size = w.heap.size + 3 := by rw [← hW0]; simp
  have hf0 : Fr (fun _ => False) w W0 (fun _ => False) := by rw [← hW0]; exact (((Fr.refl _ w).alloc _).alloc _).alloc _
  have hr0 : RdAt W0 (w.heap.size + 1 + 1) (w.heap.size + 1) s 0 0 := ⟨t2, t1⟩
  have hj0 : RdJ w w.heap.size (w.heap.size + 1 + 1) (w.heap.size + 1) W0 [] := ⟨hf0, ⟨.slice none 0 0, t0, InsAt.nil _ _, inS_nil _, inS_nil _, inS_nil _⟩, ⟨by omega, by omega, by omega⟩, ⟨by omega, by omega⟩⟩
  have hlz : w.heap.size ≤ W0.heap.size + 1 := by omega
  have HZ0 := hide hz0
  have HF0 := hide hf0
  have HR0 := hide hr0
  have HJ0 := hide hj0
  clear hW0 t0 t1 t2 hz0 hf0 hr0 hj0
  refine wpIn_wide.1 (wp_range (n := 3) (gf := 57) (lb := #[.pointer (some ⟨w.heap.size + 1 + 1, 0, none⟩)]) rfl (enters_of Tryz.func57 (by kernel_rfl) rfl) YA.enc (fun _ => rfl) (YR w w.heap.size (w.heap.size + 1 + 1) (w.heap.size + 1) s) (YE w w.heap.size (w.heap.size + 1 + 1) (w.heap.size + 1) s) (RdM w s)
    (fun W => ∃ ps, RdJ w w.heap.size (w.heap.size + 1 + 1) (w.heap.size + 1) W ps ∧ ps.map (·.1) = (readL (bs s)).1 ∧ RdAt W (w.heap.size + 1 + 1) (w.heap.size + 1) s (readL (bs s)).2.1 (readL (bs s)).2.2) ?nR' ?nRm ?nS ?assign ?body ?iter ?done)
  case nR' => exact fun y W r o h hl => ⟨h.1.noRec hl hlz, h.2.noRec hl⟩
  case nRm =>
    rintro y b W r o ⟨h, nb, h1, h2⟩ hl
    refine ⟨h.noRec hl hlz, nb, (World.putObj_heap_other (fun e => ?_)).trans h1, h2⟩
    rw [e, hl] at h1; cases h1
  case nS =>
    rintro W r o ⟨ps, h1, h2, h3⟩ hl
    exact ⟨ps, h1.noRec hl hlz, h2, h3.noRec hl⟩
  case assign =>
    intro y W r K hyr hbk hK
    obtain ⟨ps, x, fa, fl, fc, pos, why⟩ := y
    simp only [YA.enc]
    have HYR := hide hyr
    have HBK := hide hbk
    have HK := hide hK
    clear hyr hbk hK
    gi_wp2
    have hyr := unhide HYR
    have hbk := unhide HBK
    have hlt1 := (Array.getElem?_eq_some_iff.1 hbk.1).1
    have hlt2 := (Array.getElem?_eq_some_iff.1 hbk.2).1
    have e1 : ∀ q, q < W.heap.size → (W.alloc (.cells #[.int .i64 x.1, .int .i64 x.2.1, .int .i64 x.2.2.1, .slice fa fl fc] 49)).heap[q]? = W.heap[q]? := fun q hq => Below.heap_alloc _ _ _ hq
    refine unhide HK _ _ ⟨(e1 _ hlt1).trans hbk.1, (e1 _ hlt2).trans hbk.2⟩ ⟨?_, W.heap.size, heap_alloc_new _ _, rfl⟩
    exact hyr.kept (hyr.j.fr.alloc _) e1
  case body =>
    rintro ⟨ps, x, fa, fl, fc, pos, why⟩ b W r ⟨hyr, nb, hnb, rfl⟩ hbk
    obtain ⟨v, hv, hins, hv1, hv2, hv3⟩ := hyr.j.box
    obtain ⟨va, vc, rfl⟩ := row_shape hins.row
    have c0 : W.cell? ⟨w.heap.size, 0, none⟩ = some (.slice va ps.length vc) := cell_of_row _ _ 0 _ 44 (0, 0) hv
    have z0 := frozen_rowE hv 0
    have d0 : W.cell? ⟨nb, 0, none⟩ = some (.int .i64 x.1) := cell_of_row _ _ 0 _ 49 (0, 0) hnb
    have d1 : W.cell? ⟨nb, 1, none⟩ = some (.int .i64 x.2.1) := cell_of_row _ _ 1 _ 49 (0, 0) hnb
    have d2 : W.cell? ⟨nb, 2, none⟩ = some (.int .i64 x.2.2.1) := cell_of_row _ _ 2 _ 49 (0, 0) hnb
    have d3 : W.cell? ⟨nb, 3, none⟩ = some (.slice fa fl fc) := cell_of_row _ _ 3 _ 49 (0, 0) hnb
    change Code.wpIn (Fence.wide.inRound (W0.heap.size + 1)) 3 Tryz.prog _ _ ⟨#[.string s, undef, .slice none 0 0, .int .i64 0, .int .i64 0, .pointer (some ⟨w.heap.size, 0, none⟩), .pointer (some ⟨w.heap.size + 1, 0, none⟩), (.pointer (some ⟨nb, 0, none⟩)), undef, undef, .string s, .pointer (some ⟨w.heap.size + 1, 0, none⟩), .pointer (some ⟨w.heap.size + 1, 0, none⟩), .func (.func 57) #[] #[.pointer (some ⟨w.heap.size + 1 + 1, 0, none⟩)], .agg #[.int .i64 x.1, .int .i64 x.2.1, .int .i64 x.2.2.1, .slice fa fl fc], undef, undef, undef, undef, undef, undef, undef, undef, undef, undef, undef, undef], []⟩ W
    have HYR := hide hyr
    have HBK := hide hbk
    have HI := hide hins
    have HV := hide hv
    clear hyr hbk hins hnb hv
    obtain ⟨ei, ez, hei, hez, hesz, heby, hezc⟩ := elemIn.i
    have hpl : ps.length ≤ 1000000000 := (unhide HYR).m
    have hbl : w.heap.size ≤ W.heap.size := (unhide HYR).j.fr.size
    gi_wp2_with (gi_at_builtin; refine wpListIn_append_own_at _ rfl _ _ 44 rfl w.heap.size 49 ei ez 4 48 Tryz.underlying44 hei hez hesz heby hezc (by decide) (.slice va ps.length vc) ps.length (flatP ps) rfl ((unhide HI).row.alloc _) ⟨W.heap.size, 0, none⟩ 1 1 [.int .i64 x.1, .int .i64 x.2.1, .int .i64 x.2.2.1, .slice fa fl fc] rfl rfl (cells_new4 _ _ _ _ _ _) (by simp [Value.oneCell']) (small1 hpl) (small48 hpl) (by simp; omega) ?_; intro v' w1 hown' hgrow _ hat; obtain ⟨va', vc', rfl⟩ := row_shape hown'; obtain ⟨k1, k2⟩ := rbox_kept (unhide HYR) (unhide HV) hgrow)
    have hyr := unhide HYR
    have hbk := unhide HBK
    have hins := unhide HI
    obtain ⟨hg1, hg2⟩ := hins.grow x (.slice fa fl fc) hyr.f (fun q hq => (hyr.n q hq).2.2.2 _ (unhide HV)) hown' hgrow hat
    have same : ∀ q, q < W.heap.size → ¬ own (.slice va ps.length vc) q → w1.heap[q]? = W.heap[q]? := fun q hq hn => (hgrow.block q (by simp; omega) (fun e => hn e.symm)).trans (Below.heap_alloc _ _ _ hq)
    have nocell : ∀ q o, W.heap[q]? = some o → (∀ c, o ≠ .cells c 49 (0, 0)) → ¬ own (.slice va ps.length vc) q := fun q o h1 h2 h3 => by obtain ⟨c, hc⟩ := row_cells hins.row h3; rw [h1] at hc; injection hc with hc; exact h2 c hc
    have lt : ∀ {q o}, W.heap[q]? = some o → q < W.heap.size := fun h => (Array.getElem?_eq_some_iff.1 h).1
    have hib := unhide HV
    have ob : w1.heap[w.heap.size]? = some (.cells #[.slice va ps.length vc] 44) := (same _ (lt hib) (nocell _ _ hib (fun c e => by cases e))).trans hib
    have oth : ∀ q o, W.heap[q]? = some o → (∀ c, o ≠ .cells c 49 (0, 0)) → q ≠ w.heap.size → (w1.setCell ⟨w.heap.size, 0, none⟩ (.slice va' (ps.length + 1) vc')).heap[q]? = some o := fun q o h1 h2 h3 => (Below.heap_setCell _ _ _ _ h3).trans ((same q (lt h1) (nocell _ _ h1 h2)).trans h1)
    have inN : ∀ q, inS (.slice va' (ps.length + 1) vc') (ps ++ [(x, .slice fa fl fc)]) q → q < W.heap.size → ¬ inS (.slice va ps.length vc) ps q → ¬ own (.slice fa fl fc) q → False := fun q hq h1 h2 h3 => by rcases hg2 q hq with h | h | h; exact h2 h; exact h3 h; omega
    refine ⟨⟨oth _ _ hbk.1 (fun c e => by cases e) (fun e => ?_), oth _ _ hbk.2 (fun c e => by cases e) (fun e => ?_)⟩, ⟨?_, ⟨_, set3 ob 0 _, ?_, ?_, ?_, ?_⟩, hyr.j.ge, hyr.j.ne⟩, ⟨oth _ _ hyr.r.v (fun c e => by cases e) (Ne.symm hyr.j.ne.1), oth _ _ hyr.r.r (fun c e => by cases e) (Ne.symm hyr.j.ne.2)⟩⟩
    · have := hbk.1; rw [e, hib] at this; cases this
    · have := hbk.2; rw [e, hib] at this; cases this
    · exact ((hyr.j.fr.alloc _).grown hgrow (fun k hk => (World.ownsRow.lt hins.row k hk).1)).setCell _ _ (.inr (Nat.le_refl _))
    · refine hg1.block (fun q hq => Below.heap_setCell _ _ _ _ (fun e => ?_))
      exact inN q hq (e ▸ lt hib) (e ▸ hv1) (fun h => (hyr.n q h).1 e)
    · exact fun hq => inN _ hq (lt hib) hv1 (fun h => (hyr.n _ h).1 rfl)
    · exact fun hq => inN _ hq (lt hyr.r.v) hv2 (fun h => (hyr.n _ h).2.1 rfl)
    · exact fun hq => inN _ hq (lt hyr.r.r) hv3 (fun h => (hyr.n _ h).2.2.1 rfl)
  case iter =>
    rintro Bk W1 hB1 hB2 hY hB ⟨o1, o2, rfl⟩
    refine (callsIn_wide (n := 3)).2 ?_
    have e1 : ∀ q, q < W0.heap.size → ((W0.alloc o1).alloc o2).heap[q]? = W0.heap[q]? := fun q hq => (Below.heap_alloc _ _ _ (by simp; omega)).trans (Below.heap_alloc _ _ _ hq)
    refine (inputs_any (n := 3) hs (fun W hW => ?_) hY _ 0 0 ((unhide HR0).block (e1 _ (by have := unhide HZ0; omega)) (e1 _ (by have := unhide HZ0; omega))) ((unhide HJ0).block (((unhide HF0).alloc o1).alloc o2) (fun q _ hq _ _ _ => e1 q hq)) hB)
    obtain ⟨r, hr⟩ := hB1 W hW
    have hz0 := unhide HZ0
    exact ⟨W0.heap.size, r, by omega, by omega, by omega, hr, fun W' h1 h2 => hB2 W W' hW h1 h2⟩
  case done =>
    rintro W ⟨ps, h1, h2, h3⟩ hD
    obtain ⟨v, hv, hins, hv1, hv2, hv3⟩ := h1.box
    obtain ⟨va, vc, rfl⟩ := row_shape hins.row
    have c0 : W.cell? ⟨w.heap.size, 0, none⟩ = some (.slice va ps.length vc) := cell_of_row _ _ 0 _ 44 (0, 0) hv
    have H3 := hide h3
    have H1 := hide h1
    have HI := hide hins
    have HD := hide hD
    clear h1 h3 hins hD hv
    go_wp2_with (go_at_call 33; refine (ends_any (unhide H3).cells.2.2.1 (unhide H3).cells.2.2.2.1).mono ?_; rintro e w' ⟨rfl, rfl⟩)
    have hD : W.drew.heap[W0.heap.size]? = some (.deferred (some [])) := unhide HD
    have hins := unhide HI
    have h1 := unhide H1
    have hz0 := unhide HZ0
    refine ⟨by simp, .inl ⟨_, _, rfl, run_takeDeferred hD, ?_⟩⟩
    refine ⟨.tuple #[.slice va ps.length vc, .int .i64 (readL (bs s)).2.1, .int .i64 (readL (bs s)).2.2], by simp [results, Tryz.results16, go_sem], va, ps.length, vc, ps, rfl, ?_, h2, ?_⟩
    · refine hins.block (fun q hq => World.putObj_heap_other (fun e => ?_))
      obtain ⟨c, t, hc⟩ := hins.isCells hq
      have : W.heap[W0.heap.size]? = _ := unhide HD
      rw [e, this] at hc; cases hc
    · have f1 := h1.fr.drew
      exact ⟨f1.os, f1.tape, f1.output, by simpa using f1.size, fun k hk hn => (World.putObj_heap_other (by omega)).trans (f1.same k hk hn), fun _ _ h => h⟩

end Go.Proofs.YtfmbebofllgmoaaGreatDoor
namespace Go.Proofs.YtfmbebofllgmoaaGreatDoor
open Go.RowKit
attribute [local go_sem ↓] Go.wp_at_zero Go.wp_at_succ

/-- Read, its list by its length. -/
theorem read_ps (t : ByteArray) (hs : t.size ≤ 1000000000) (W : World) : Calls Tryz.prog 16 #[.string t] W fun e w' => ∃ a c, ∃ ps : List (Inp × Value), e = .returned (.tuple #[.slice a ps.length c, .int .i64 (readL (bs t)).2.1, .int .i64 (readL (bs t)).2.2]) ∧ InsAt w' W.heap.size (.slice a ps.length c) ps ∧ ps.map (·.1) = (readL (bs t)).1 ∧ Fr (fun _ => False) W w' (fun _ => False) := by
  refine (read_any t hs W).mono ?_
  rintro e w' ⟨a, n, c, ps, rfl, hi, hp, hf⟩
  obtain ⟨a', c', e'⟩ := row_shape hi.row
  injection e' with e1 e2 e3
  subst e1 e2 e3
  exact ⟨a, c, ps, rfl, hi, hp, hf⟩
end Go.Proofs.YtfmbebofllgmoaaGreatDoor
namespace Go.Proofs.YtfmbebofllgmoaaGreatDoor
open Go.RowKit
attribute [local go_sem ↓] Go.wp_at_zero Go.wp_at_succ

/-- An input's cells in a list of inputs. -/
theorem InsAt.cells {w : World} {B : Nat} {v : Value} {ps : List (Inp × Value)} (h : InsAt w B v ps) {i : Nat} (hi : i < ps.length) : ∃ g c x fv, v = .slice (some ⟨g, 0, none⟩) ps.length c ∧ g < w.heap.size ∧ ps[i]? = some (x, fv) ∧ w.cell? ⟨g, i * 4, none⟩ = some (.int .i64 (x.1 : Nat)) ∧ w.cell? ⟨g, i * 4 + 1, none⟩ = some (.int .i64 (x.2.1 : Nat)) ∧ w.cell? ⟨g, i * 4 + 2, none⟩ = some (.int .i64 (x.2.2.1 : Nat)) ∧ w.cell? ⟨g, i * 4 + 3, none⟩ = some fv ∧ OwnI w B fv (zs x.2.2.2) := by
  obtain ⟨g, c, hv, _, hg, hc⟩ := row_cell h.row (by omega)
  have hp : ps[i]? = some ps[i] := List.getElem?_eq_getElem hi
  obtain ⟨g0, g1, g2, g3⟩ := flatP_get ps i _ hp
  exact ⟨g, c, ps[i].1, ps[i].2, hv, hg, hp, hc _ _ g0, hc _ _ g1, hc _ _ g2, hc _ _ g3, h.fl _ (List.getElem_mem hi)⟩

theorem InsAt.fr {w W : World} {B : Nat} {v : Value} {ps : List (Inp × Value)} (h : InsAt w B v ps) (hf : Fr (fun _ => False) w W (fun _ => False)) : InsAt W B v ps := h.block (fun q hq => hf.same q (h.lt hq).2 (fun h => h))
theorem fit_files {x : Inp} (h : Fit x) : x.2.2.2.length ≤ 100 := by
  rcases h with ⟨_, _, _, e⟩ | ⟨_, _, _, e⟩ | ⟨_, _, _, _, e⟩ | ⟨_, _, _, _, e⟩ | ⟨_, _, _, _, e⟩
  · rw [e]; simp
  · have := (risL_len x.2.2.2 (-1) (by omega) (by omega) e).1; omega
  · rw [e]; simp
  · rw [e]; simp
  · rw [e]; simp
end Go.Proofs.YtfmbebofllgmoaaGreatDoor
namespace Go.Proofs.YtfmbebofllgmoaaGreatDoor
open Go.RowKit
attribute [local go_sem ↓] Go.wp_at_zero Go.wp_at_succ

set_option maxHeartbeats 1000000 in
theorem sameInts_any {w : World} {va vb : Value} {l : List Int} {P Q : Nat → Prop} (ha : IntsIn w va l P) (hb : IntsIn w vb l Q) (hll : l.length ≤ 100000000) :
    Calls Tryz.prog 78 #[va, vb] w fun e w' => e = .returned (.bool true) ∧ Dr w w' := by
  obtain ⟨aa, ca, rfl, hac⟩ := ha
  obtain ⟨ab, cb, rfl, hbc⟩ := hb
  have HAC := hide hac
  have HBC := hide hbc
  clear hac hbc
  go_enter Tryz.func78, Tryz.ntmps78
  go_wp2
  go_loopw [5] (fun i wr => ∃ j : Nat, j ≤ l.length ∧ i = .int .i64 j ∧ Dr w wr) (fun i _ => l.length - (intOf i).toNat)
  case atStart => exact ⟨0, Nat.zero_le _, rfl, Dr.refl _⟩
  case round =>
    obtain ⟨j, hj, rfl, hd⟩ := hrel
    by_cases hlt : j < l.length
    · rcases unhide HAC with hz | ⟨q, off, rfl, hq, hcq⟩
      · rw [hz] at hlt; simp at hlt
      rcases unhide HBC with hz | ⟨q', off', rfl, hq', hcq'⟩
      · rw [hz] at hlt; simp at hlt
      have g0 := (hd.cell (a := ⟨q, off + j, none⟩)).trans (hcq j hlt)
      have g1 := (hd.cell (a := ⟨q', off' + j, none⟩)).trans (hcq' j hlt)
      clear hcq hcq' HAC HBC
      generalize l.getD j 0 = z at *
      have hk0 : (0 : Int) ≤ (j : Int) := by omega
      have hk1 : (j : Int) < (l.length : Int) := by omega
      go_wp2
      go_quiet (fail)
      go_wp2
      go_roundw
      case rel => exact ⟨j + 1, by omega, by go_num, hd.more _⟩
      case measure => simp [intOf]; omega
    · have hk1 : ¬ (j : Int) < (l.length : Int) := by omega
      go_wp2
      go_ret
      exact ⟨rfl, hd⟩

/-- A list of numbers that are all the same. -/
def FullI (w : World) (v : Value) (m : Int) : Prop := ∃ a n c, v = .slice a n c ∧ n ≤ 1000000000 ∧ (n = 0 ∨ ∃ q off, a = some ⟨q, off, none⟩ ∧ ∀ i, i < n → w.cell? ⟨q, off + i, none⟩ = some (.int .i64 m))
theorem fullInts_any {w : World} {v : Value} {m : Int} (h : FullI w v m) : Calls Tryz.prog 47 #[v, .int .i64 m] w fun e w' => e = .returned (.bool true) ∧ w' = w := by
  obtain ⟨a, n, c, rfl, hn, hc⟩ := h
  have HC := hide hc
  clear hc
  go_enter Tryz.func47, Tryz.ntmps47
  go_wp2
  go_loopw [5] (fun i wr => ∃ j : Nat, j ≤ n ∧ i = .int .i64 j ∧ wr = w) (fun i _ => n - (intOf i).toNat)
  case atStart => exact ⟨0, Nat.zero_le _, rfl, rfl⟩
  case round =>
    obtain ⟨j, hj, rfl, rfl⟩ := hrel
    by_cases hlt : j < n
    · rcases unhide HC with hz | ⟨q, off, rfl, hcq⟩
      · omega
      have g0 := hcq j hlt
      clear hcq HC
      have hk0 : (0 : Int) ≤ (j : Int) := by omega
      have hk1 : (j : Int) < (n : Int) := by omega
      go_wp2
      go_roundw
      case rel => exact ⟨j + 1, by omega, by go_num, trivial⟩
      case measure => simp [intOf]; omega
    · have hk1 : ¬ (j : Int) < (n : Int) := by omega
      go_wp2
      go_ret
      exact ⟨rfl, rfl⟩
/-- A list of inputs that are all one mark. -/
def FullN (w : World) (v : Value) (m : Int) : Prop := ∃ a n c, v = .slice a n c ∧ n ≤ 1000000000 ∧ (n = 0 ∨ ∃ q off, a = some ⟨q, off, none⟩ ∧ ∀ i, i < n → w.cell? ⟨q, off + i * 4, none⟩ = some (.int .i64 0) ∧ w.cell? ⟨q, off + i * 4 + 1, none⟩ = some (.int .i64 0) ∧ w.cell? ⟨q, off + i * 4 + 2, none⟩ = some (.int .i64 m) ∧ w.cell? ⟨q, off + i * 4 + 3, none⟩ = some (.slice none 0 0))
theorem fullInputs_any {w : World} {v : Value} {m : Int} (h : FullN w v m) : Calls Tryz.prog 49 #[v, .int .i64 m] w fun e w' => e = .returned (.bool true) ∧ w' = w := by
  obtain ⟨a, n, c, rfl, hn, hc⟩ := h
  have HC := hide hc
  clear hc
  go_enter Tryz.func49, Tryz.ntmps49
  go_wp2
  go_loopw [5] (fun i wr => ∃ j : Nat, j ≤ n ∧ i = .int .i64 j ∧ wr = w) (fun i _ => n - (intOf i).toNat)
  case atStart => exact ⟨0, Nat.zero_le _, rfl, rfl⟩
  case round =>
    obtain ⟨j, hj, rfl, rfl⟩ := hrel
    by_cases hlt : j < n
    · rcases unhide HC with hz | ⟨q, off, rfl, hcq⟩
      · omega
      obtain ⟨g0, g1, g2, g3⟩ := hcq j hlt
      clear hcq HC
      have hk0 : (0 : Int) ≤ (j : Int) := by omega
      have hk1 : (j : Int) < (n : Int) := by omega
      go_wp2
      go_roundw
      case rel => exact ⟨j + 1, by omega, by go_num, trivial⟩
      case measure => simp [intOf]; omega
    · have hk1 : ¬ (j : Int) < (n : Int) := by omega
      go_wp2
      go_ret
      exact ⟨rfl, rfl⟩
/-- An input's cells in a list of inputs of the document. -/
theorem DIns.cells {w : World} {B : Nat} {v : Value} {ps : List (Inp × Value)} (h : DIns w B v ps) {i : Nat} (hi : i < ps.length) : ∃ g c x fv, v = .slice (some ⟨g, 0, none⟩) ps.length c ∧ g < w.heap.size ∧ ps[i]? = some (x, fv) ∧ w.cell? ⟨g, i * 4, none⟩ = some (.int .i64 (x.1 : Nat)) ∧ w.cell? ⟨g, i * 4 + 1, none⟩ = some (.int .i64 (x.2.1 : Nat)) ∧ w.cell? ⟨g, i * 4 + 2, none⟩ = some (.int .i64 (x.2.2.1 : Nat)) ∧ w.cell? ⟨g, i * 4 + 3, none⟩ = some fv ∧ IntsIn w fv (zs x.2.2.2) (fun q => q < w.heap.size) := by
  obtain ⟨g, c, hv, _, hg, hc⟩ := row_cell h.row (by omega)
  have hp : ps[i]? = some ps[i] := List.getElem?_eq_getElem hi
  obtain ⟨g0, g1, g2, g3⟩ := flatP_get ps i _ hp
  exact ⟨g, c, ps[i].1, ps[i].2, hv, hg, hp, hc _ _ g0, hc _ _ g1, hc _ _ g2, hc _ _ g3, intsIn_kept (h.fl _ (List.getElem_mem hi)) (fun _ _ => rfl) (fun _ hq => hq.2.1)⟩

set_option maxHeartbeats 2000000 in
set_option maxRecDepth 20000 in
theorem sameInputs_any {w : World} {B1 B2 : Nat} {v1 v2 : Value} {ps1 ps2 : List (Inp × Value)} (h1 : InsAt w B1 v1 ps1) (h2 : DIns w B2 v2 ps2) (he : ps1.map (·.1) = ps2.map (·.1)) (hl : ps1.length ≤ 100000000) (hf : ∀ p, p ∈ ps1 → p.1.2.2.2.length ≤ 100) :
    Calls Tryz.prog 44 #[v1, v2] w fun e w' => e = .returned (.bool true) ∧ Fr (fun _ => False) w w' (fun _ => False) := by
  have hle : ps1.length = ps2.length := by have := congrArg List.length he; simpa using this
  have key : ∀ i, i < ps1.length → ∃ g1 c1 g2 c2 fa1 fn1 fc1 fa2 fn2 fc2, ∃ x : Inp, v1 = .slice (some ⟨g1, 0, none⟩) ps1.length c1 ∧ v2 = .slice (some ⟨g2, 0, none⟩) ps2.length c2 ∧ g1 < w.heap.size ∧ g2 < w.heap.size ∧ ∀ W : World, Fr (fun _ => False) w W (fun _ => False) →
      (W.cell? ⟨g1, i * 4, none⟩ = some (.int .i64 (x.1 : Nat)) ∧ W.cell? ⟨g1, i * 4 + 1, none⟩ = some (.int .i64 (x.2.1 : Nat)) ∧ W.cell? ⟨g1, i * 4 + 2, none⟩ = some (.int .i64 (x.2.2.1 : Nat)) ∧ W.cell? ⟨g1, i * 4 + 3, none⟩ = some (.slice fa1 fn1 fc1)) ∧
      (W.cell? ⟨g2, i * 4, none⟩ = some (.int .i64 (x.1 : Nat)) ∧ W.cell? ⟨g2, i * 4 + 1, none⟩ = some (.int .i64 (x.2.1 : Nat)) ∧ W.cell? ⟨g2, i * 4 + 2, none⟩ = some (.int .i64 (x.2.2.1 : Nat)) ∧ W.cell? ⟨g2, i * 4 + 3, none⟩ = some (.slice fa2 fn2 fc2)) ∧
      Calls Tryz.prog 78 #[.slice fa1 fn1 fc1, .slice fa2 fn2 fc2] W fun e w' => e = .returned (.bool true) ∧ Dr W w' := by
    intro i hi
    obtain ⟨g1, c1, x1, fv1, e1, l1, p1, a0, a1, a2, a3, o1⟩ := h1.cells hi
    obtain ⟨g2, c2, x2, fv2, e2, l2, p2, b0, b1, b2, b3, o2⟩ := h2.cells (i := i) (by omega)
    have hx : x2 = x1 := by
      have q1 : (ps1.map (·.1))[i]? = some x1 := by rw [List.getElem?_map, p1]; rfl
      have q2 : (ps2.map (·.1))[i]? = some x2 := by rw [List.getElem?_map, p2]; rfl
      rw [he, q2] at q1
      exact Option.some.inj q1
    subst hx
    obtain ⟨fa1, fn1, fc1, rfl⟩ := ownI_shape o1
    obtain ⟨fa2, fc2, hfv2, _⟩ := id o2
    subst hfv2
    refine ⟨g1, c1, g2, c2, fa1, fn1, fc1, fa2, (zs x2.2.2.2).length, fc2, x2, e1, e2, l1, l2, fun W hW => ?_⟩
    have k1 : ∀ j u, w.cell? ⟨g1, j, none⟩ = some u → W.cell? ⟨g1, j, none⟩ = some u := fun j u h => (hW.cell g1 j l1 (fun h => h)).trans h
    have k2 : ∀ j u, w.cell? ⟨g2, j, none⟩ = some u → W.cell? ⟨g2, j, none⟩ = some u := fun j u h => (hW.cell g2 j l2 (fun h => h)).trans h
    refine ⟨⟨k1 _ _ a0, k1 _ _ a1, k1 _ _ a2, k1 _ _ a3⟩, ⟨k2 _ _ b0, k2 _ _ b1, k2 _ _ b2, k2 _ _ b3⟩, ?_⟩
    have m1 := (ownI_ints (o1.fr hW (fun q hq => ⟨(World.ownsRow.lt o1 q hq).2, fun h => h⟩)))
    have m2 := intsIn_kept o2 (fun q hq => hW.same q hq (fun h => h)) (fun _ h => h)
    have hb := hf _ (List.mem_of_getElem? p1)
    exact sameInts_any m1 m2 (by rw [zs_len]; exact Nat.le_trans hb (by omega))
  obtain ⟨a1, c1, rfl⟩ := row_shape h1.row
  obtain ⟨a2, c2, rfl⟩ := row_shape h2.row
  have KEY := hide key
  rw [hle] at KEY ⊢
  rw [hle] at hl
  clear key h1 h2 hf he
  go_enter Tryz.func44, Tryz.ntmps44
  go_wp2
  go_loopw [5] (fun i wr => ∃ j : Nat, j ≤ ps2.length ∧ i = .int .i64 j ∧ Fr (fun _ => False) w wr (fun _ => False)) (fun i _ => ps2.length - (intOf i).toNat)
  case atStart => exact ⟨0, Nat.zero_le _, rfl, Fr.refl _ _⟩
  case round =>
    obtain ⟨j, hj, rfl, hfr⟩ := hrel
    by_cases hlt : j < ps2.length
    · obtain ⟨g1, k1, g2, k2, fa1, fn1, fc1, fa2, fn2, fc2, x, e1, e2, l1, l2, hk⟩ := unhide KEY j hlt
      injection e1 with e1 _ e3
      injection e2 with e2 _ e4
      subst e1 e2 e3 e4
      obtain ⟨⟨s0, s1, s2, s3⟩, ⟨t0, t1, t2, t3⟩, _⟩ := hk wr hfr
      obtain ⟨_, ⟨r0, r1, r2, r3⟩, _⟩ := hk (wr.alloc (.cells #[.int .i64 (x.1 : Nat), .int .i64 (x.2.1 : Nat), .int .i64 (x.2.2.1 : Nat), .slice fa1 fn1 fc1] 49)) (hfr.alloc _)
      have hz := hfr.size
      have hn1 : g1 ≠ wr.heap.size := by omega
      have hn2 : g2 ≠ wr.heap.size := by omega
      have hn1' : ¬ wr.heap.size = g1 := by omega
      have hn2' : ¬ wr.heap.size = g2 := by omega
      have HC := hide (fun W hW => (hk W hW).2.2)
      have HFR := hide hfr
      have hk0 : (0 : Int) ≤ (j : Int) := by omega
      have hk1 : (j : Int) < (ps2.length : Int) := by omega
      clear hk hfr KEY
      go_wp2_with (go_at_call 78; refine (unhide HC _ (((unhide HFR).alloc _).alloc _)).mono ?_; rintro e w1 ⟨rfl, d1⟩; have y0 := fun i => d1.cell ⟨wr.heap.size, i, none⟩; have y1 := fun i => d1.cell ⟨wr.heap.size + 1, i, none⟩; have D1 := hide d1; clear d1)
      go_roundw
      case rel =>
        obtain ⟨m, hm⟩ := unhide D1
        refine ⟨j + 1, by omega, by go_num, ?_⟩
        rw [hm]
        exact (((unhide HFR).alloc _).alloc _).drewN m
      case measure => simp [intOf]; omega
    · have hk1 : ¬ (j : Int) < (ps2.length : Int) := by omega
      go_wp2
      go_ret
      exact ⟨rfl, hfr⟩
end Go.Proofs.YtfmbebofllgmoaaGreatDoor
namespace Go.Proofs.YtfmbebofllgmoaaGreatDoor
open Go.RowKit

theorem row_prefix {w : World} {B e size n m g cap : Nat} {xs news : List Value} (h : w.ownsRow B e size (.slice (some ⟨g, 0, none⟩) (n + m) cap) (n + m) (xs ++ news)) (hl : xs.length = n * size) : w.ownsRow B e size (.slice (some ⟨g, 0, none⟩) n cap) n xs := by
  obtain ⟨h0, h⟩ := h
  rcases h with ⟨hv, _⟩ | ⟨g', cap', cur, hv, hB, hg, h1, h2, h3, h4⟩
  · cases hv
  · cases hv
    refine ⟨hl, .inr ⟨g, cap, cur, rfl, hB, hg, by omega, h2, h3, ?_⟩⟩
    have h5 := congrArg (List.take (n * size)) h4
    rw [List.take_take, ← hl, List.take_left] at h5
    rw [← hl]
    rw [show min xs.length ((n + m) * size) = xs.length by rw [hl, Nat.add_mul]; omega] at h5
    exact h5
end Go.Proofs.YtfmbebofllgmoaaGreatDoor
namespace Go.Proofs.YtfmbebofllgmoaaGreatDoor
open Go.RowKit
attribute [local go_sem ↓] Go.wp_at_zero Go.wp_at_succ

/-- A list that came out, and those that are longer; its mark. -/
structure Ent where
  l : Value
  a : Value
  b : Value
  c : Value
  m : Int
def flat5 : List Ent → List Value
  | [] => []
  | e :: r => e.l :: e.a :: e.b :: e.c :: .int .i64 e.m :: flat5 r
theorem flat5_append (a b : List Ent) : flat5 (a ++ b) = flat5 a ++ flat5 b := by
  induction a with
  | nil => rfl
  | cons x r ih => simp [flat5, ih]
theorem flat5_get : ∀ (es : List Ent) (i : Nat) (e : Ent), es[i]? = some e → (flat5 es)[i * 5]? = some e.l ∧ (flat5 es)[i * 5 + 1]? = some e.a ∧ (flat5 es)[i * 5 + 2]? = some e.b ∧ (flat5 es)[i * 5 + 3]? = some e.c ∧ (flat5 es)[i * 5 + 4]? = some (.int .i64 e.m)
  | [], i, p, h => by simp at h
  | x :: r, 0, p, h => by
    simp at h
    subst h
    exact ⟨rfl, rfl, rfl, rfl, rfl⟩
  | x :: r, i + 1, p, h => by
    have hr := flat5_get r i p (by simpa using h)
    have e : ∀ j, (flat5 (x :: r))[(i + 1) * 5 + j]? = (flat5 r)[i * 5 + j]? := fun j => by
      rw [show (i + 1) * 5 + j = (i * 5 + j) + 5 by omega]; rfl
    exact ⟨(e 0).trans hr.1, (e 1).trans hr.2.1, (e 2).trans hr.2.2.1, (e 3).trans hr.2.2.2.1, (e 4).trans hr.2.2.2.2⟩
/-- A list of events that are all one mark. -/
def FullE (w : World) (v : Value) (m : Int) : Prop := ∃ a n c, v = .slice a n c ∧ n ≤ 1000000000 ∧ (n = 0 ∨ ∃ q off, a = some ⟨q, off, none⟩ ∧ ∀ i, i < n → w.cell? ⟨q, off + i * 3, none⟩ = some (.int .i64 0) ∧ w.cell? ⟨q, off + i * 3 + 1, none⟩ = some (.int .i64 m) ∧ w.cell? ⟨q, off + i * 3 + 2, none⟩ = some (.int .i64 0))
section
variable {w W : World} {v : Value} {m : Int}
theorem FullI.fr (h : FullI w v m) (hf : Fr (fun _ => False) w W (fun _ => False)) : FullI W v m := by
  obtain ⟨a, n, c, hv, hn, hc⟩ := h
  refine ⟨a, n, c, hv, hn, hc.imp id fun ⟨q, off, e, hcell⟩ => ⟨q, off, e, fun i hi => ?_⟩⟩
  exact (hf.cell q (off + i) (World.block_lt_of_cell? w _ (hcell i hi)) (fun h => h)).trans (hcell i hi)
theorem FullE.fr (h : FullE w v m) (hf : Fr (fun _ => False) w W (fun _ => False)) : FullE W v m := by
  obtain ⟨a, n, c, hv, hn, hc⟩ := h
  refine ⟨a, n, c, hv, hn, hc.imp id fun ⟨q, off, e, hcell⟩ => ⟨q, off, e, fun i hi => ?_⟩⟩
  obtain ⟨h0, h1, h2⟩ := hcell i hi
  have hq := World.block_lt_of_cell? w _ h0
  exact ⟨(hf.cell q _ hq (fun h => h)).trans h0, (hf.cell q _ hq (fun h => h)).trans h1, (hf.cell q _ hq (fun h => h)).trans h2⟩
theorem FullN.fr (h : FullN w v m) (hf : Fr (fun _ => False) w W (fun _ => False)) : FullN W v m := by
  obtain ⟨a, n, c, hv, hn, hc⟩ := h
  refine ⟨a, n, c, hv, hn, hc.imp id fun ⟨q, off, e, hcell⟩ => ⟨q, off, e, fun i hi => ?_⟩⟩
  obtain ⟨h0, h1, h2, h3⟩ := hcell i hi
  have hq := World.block_lt_of_cell? w _ h0
  exact ⟨(hf.cell q _ hq (fun h => h)).trans h0, (hf.cell q _ hq (fun h => h)).trans h1, (hf.cell q _ hq (fun h => h)).trans h2, (hf.cell q _ hq (fun h => h)).trans h3⟩
end
theorem fullEvents_any {w : World} {v : Value} {m : Int} (h : FullE w v m) : Calls Tryz.prog 48 #[v, .int .i64 m] w fun e w' => e = .returned (.bool true) ∧ Fr (fun _ => False) w w' (fun _ => False) := by
  obtain ⟨a, n, c, rfl, hn, hc⟩ := h
  have HC := hide hc
  clear hc
  go_enter Tryz.func48, Tryz.ntmps48
  go_wp2
  have hf1 : Fr (fun _ => False) w (w.alloc (.cells #[.int .i64 0, .int .i64 m, .int .i64 0] 72)) (fun _ => False) := (Fr.refl _ _).alloc _
  have hb1 := heap_alloc_new w (.cells #[.int .i64 0, .int .i64 m, .int .i64 0] 72)
  generalize hW : w.alloc (.cells #[.int .i64 0, .int .i64 m, .int .i64 0] 72) = W at *
  clear hW
  have HF1 := hide hf1
  have HB1 := hide hb1
  clear hf1 hb1
  go_loopw [6] (fun i wr => ∃ j : Nat, j ≤ n ∧ i = .int .i64 j ∧ Dr W wr) (fun i _ => n - (intOf i).toNat)
  case atStart => exact ⟨0, Nat.zero_le _, rfl, Dr.refl _⟩
  case round =>
    obtain ⟨j, hj, rfl, hd⟩ := hrel
    by_cases hlt : j < n
    · rcases unhide HC with hz | ⟨q, off, rfl, hcq⟩
      · omega
      obtain ⟨g0, g1, g2⟩ := hcq j hlt
      have hq := World.block_lt_of_cell? w _ g0
      have k0 := (hd.cell ⟨q, off + j * 3, none⟩).trans (((unhide HF1).cell q _ hq (fun h => h)).trans g0)
      have k1 := (hd.cell ⟨q, off + j * 3 + 1, none⟩).trans (((unhide HF1).cell q _ hq (fun h => h)).trans g1)
      have k2 := (hd.cell ⟨q, off + j * 3 + 2, none⟩).trans (((unhide HF1).cell q _ hq (fun h => h)).trans g2)
      have c1 := fun i => (hd.cell ⟨w.heap.size, i, none⟩).trans (cell_of_row W _ i _ 72 (0, 0) (unhide HB1))
      clear hcq HC g0 g1 g2
      have hk0 : (0 : Int) ≤ (j : Int) := by omega
      have hk1 : (j : Int) < (n : Int) := by omega
      go_wp2
      go_quiet (fail)
      go_wp2
      go_roundw
      case rel => exact ⟨j + 1, by omega, by go_num, hd.more _⟩
      case measure => simp [intOf]; omega
    · have hk1 : ¬ (j : Int) < (n : Int) := by omega
      go_wp2
      go_ret
      refine ⟨rfl, ?_⟩
      obtain ⟨k, rfl⟩ := hd
      exact (unhide HF1).drewN k

/-- The Book: its block, its rows, and every list as its owner wrote it. -/
structure BookIn (w : World) (B bb : Nat) (n : Int) (vI vE vN : Value) (LI LE LN : List Ent) : Prop where
  blk : w.heap[bb]? = some (.cells #[.int .i64 n, vI, vE, vN] 65)
  rI : w.ownsRow B 105 5 vI LI.length (flat5 LI)
  rE : w.ownsRow B 108 5 vE LE.length (flat5 LE)
  rN : w.ownsRow B 111 5 vN LN.length (flat5 LN)
  fI : ∀ e, e ∈ LI → FullI w e.l e.m ∧ FullI w e.a e.m ∧ FullI w e.b e.m ∧ FullI w e.c e.m
  fE : ∀ e, e ∈ LE → FullE w e.l e.m ∧ FullE w e.a e.m ∧ FullE w e.b e.m ∧ FullE w e.c e.m
  fN : ∀ e, e ∈ LN → FullN w e.l e.m ∧ FullN w e.a e.m ∧ FullN w e.b e.m ∧ FullN w e.c e.m
theorem BookIn.fr {w W : World} {B bb : Nat} {n : Int} {vI vE vN : Value} {LI LE LN : List Ent} (h : BookIn w B bb n vI vE vN LI LE LN) (hf : Fr (fun _ => False) w W (fun _ => False)) : BookIn W B bb n vI vE vN LI LE LN := by
  have er : ∀ {B e size n v xs}, w.ownsRow B e size v n xs → W.ownsRow B e size v n xs := fun hr => ownsRow_of_block hr (fun q hq => hf.same q (World.ownsRow.lt hr q hq).2 (fun h => h))
  exact ⟨(hf.same _ (Array.getElem?_eq_some_iff.1 h.blk).1 (fun h => h)).trans h.blk, er h.rI, er h.rE, er h.rN,
    fun e he => ⟨(h.fI e he).1.fr hf, (h.fI e he).2.1.fr hf, (h.fI e he).2.2.1.fr hf, (h.fI e he).2.2.2.fr hf⟩, fun e he => ⟨(h.fE e he).1.fr hf, (h.fE e he).2.1.fr hf, (h.fE e he).2.2.1.fr hf, (h.fE e he).2.2.2.fr hf⟩, fun e he => ⟨(h.fN e he).1.fr hf, (h.fN e he).2.1.fr hf, (h.fN e he).2.2.1.fr hf, (h.fN e he).2.2.2.fr hf⟩⟩
/-- An entry's cells. -/
theorem ent_cells {w : World} {B e : Nat} {v : Value} {es : List Ent} (h : w.ownsRow B e 5 v es.length (flat5 es)) {i : Nat} (hi : i < es.length) : ∃ g c, v = .slice (some ⟨g, 0, none⟩) es.length c ∧ w.cell? ⟨g, i * 5, none⟩ = some (es[i]).l ∧ w.cell? ⟨g, i * 5 + 1, none⟩ = some (es[i]).a ∧ w.cell? ⟨g, i * 5 + 2, none⟩ = some (es[i]).b ∧ w.cell? ⟨g, i * 5 + 3, none⟩ = some (es[i]).c ∧ w.cell? ⟨g, i * 5 + 4, none⟩ = some (.int .i64 (es[i]).m) := by
  obtain ⟨g, c, hv, _, _, hc⟩ := row_cell h (by omega)
  obtain ⟨g0, g1, g2, g3, g4⟩ := flat5_get es i es[i] (List.getElem?_eq_getElem hi)
  exact ⟨g, c, hv, hc _ _ g0, hc _ _ g1, hc _ _ g2, hc _ _ g3, hc _ _ g4⟩
theorem FullI.shape {w : World} {v : Value} {m : Int} (h : FullI w v m) : ∃ a n c, v = .slice a n c := by obtain ⟨a, n, c, hv, _⟩ := h; exact ⟨a, n, c, hv⟩
theorem FullE.shape {w : World} {v : Value} {m : Int} (h : FullE w v m) : ∃ a n c, v = .slice a n c := by obtain ⟨a, n, c, hv, _⟩ := h; exact ⟨a, n, c, hv⟩
theorem FullN.shape {w : World} {v : Value} {m : Int} (h : FullN w v m) : ∃ a n c, v = .slice a n c := by obtain ⟨a, n, c, hv, _⟩ := h; exact ⟨a, n, c, hv⟩
end Go.Proofs.YtfmbebofllgmoaaGreatDoor
namespace Go.Proofs.YtfmbebofllgmoaaGreatDoor
open Go.RowKit
attribute [local go_sem ↓] Go.wp_at_zero Go.wp_at_succ

set_option maxHeartbeats 4000000 in
set_option maxRecDepth 20000 in
theorem looks_any {w : World} {B bb : Nat} {n : Int} {vI vE vN : Value} {LI LE LN : List Ent} (h : BookIn w B bb n vI vE vN LI LE LN) (hI : LI.length ≤ 1000000000000) (hE : LE.length ≤ 1000000000000) (hN : LN.length ≤ 1000000000000) :
    Calls Tryz.prog 24 #[.pointer (some ⟨bb, 0, none⟩)] w fun e w' => e = .returned (.bool true) ∧ Fr (fun _ => False) w w' (fun _ => False) := by
  obtain ⟨aI, cI, rfl⟩ := row_shape h.rI
  obtain ⟨aE, cE, rfl⟩ := row_shape h.rE
  obtain ⟨aN, cN, rfl⟩ := row_shape h.rN
  have HB := hide h
  clear h
  go_enter Tryz.func24, Tryz.ntmps24
  go_wp2
  go_loopw [3] (fun i wr => ∃ j : Nat, j ≤ LI.length ∧ i = .int .i64 j ∧ Fr (fun _ => False) w wr (fun _ => False)) (fun i _ => LI.length - (intOf i).toNat)
  case atStart => exact ⟨0, Nat.zero_le _, rfl, Fr.refl _ _⟩
  case round =>
    obtain ⟨j, hj, rfl, hfr⟩ := hrel
    have hb := (unhide HB).fr hfr
    have cb := fun i => cell_of_row wr _ i _ 65 (0, 0) hb.blk
    by_cases hlt : j < LI.length
    · obtain ⟨g, cc, hv, k0, k1, k2, k3, k4⟩ := ent_cells hb.rI hlt
      injection hv with hv1 hv2 hv3
      subst hv1
      obtain ⟨f0, f1, f2, f3⟩ := hb.fI _ (List.getElem_mem hlt)
      generalize LI[j] = e at *
      obtain ⟨el, ea, eb, ec, em⟩ := e
      simp only at k0 k1 k2 k3 k4 f0 f1 f2 f3
      obtain ⟨a0, n0, c0, rfl⟩ := f0.shape
      obtain ⟨a1, n1, c1, rfl⟩ := f1.shape
      obtain ⟨a2, n2, c2, rfl⟩ := f2.shape
      obtain ⟨a3, n3, c3, rfl⟩ := f3.shape
      have fa : Fr (fun _ => False) wr (wr.alloc (.cells #[.slice a0 n0 c0, .slice a1 n1 c1, .slice a2 n2 c2, .slice a3 n3 c3, .int .i64 em] 105)) (fun _ => False) := (Fr.refl _ _).alloc _
      have xb := heap_alloc_new wr (.cells #[.slice a0 n0 c0, .slice a1 n1 c1, .slice a2 n2 c2, .slice a3 n3 c3, .int .i64 em] 105)
      have HF := hide (fun (W : World) (hW : Fr (fun _ => False) (wr.alloc (.cells #[.slice a0 n0 c0, .slice a1 n1 c1, .slice a2 n2 c2, .slice a3 n3 c3, .int .i64 em] 105)) W (fun _ => False)) => And.intro (f0.fr (fa.trans hW)) (And.intro (f1.fr (fa.trans hW)) (And.intro (f2.fr (fa.trans hW)) (f3.fr (fa.trans hW)))))
      have HX := hide (fun (W : World) (hW : Fr (fun _ => False) (wr.alloc (.cells #[.slice a0 n0 c0, .slice a1 n1 c1, .slice a2 n2 c2, .slice a3 n3 c3, .int .i64 em] 105)) W (fun _ => False)) (i : Nat) => cell_of_row W _ i _ 105 (0, 0) ((hW.same wr.heap.size (by simp) (fun h => h)).trans xb))
      have H0 := hide (fun (W : World) (hW : Fr (fun _ => False) (wr.alloc (.cells #[.slice a0 n0 c0, .slice a1 n1 c1, .slice a2 n2 c2, .slice a3 n3 c3, .int .i64 em] 105)) W (fun _ => False)) => (fullInts_any (unhide HF W hW).1))
      have H1 := hide (fun (W : World) (hW : Fr (fun _ => False) (wr.alloc (.cells #[.slice a0 n0 c0, .slice a1 n1 c1, .slice a2 n2 c2, .slice a3 n3 c3, .int .i64 em] 105)) W (fun _ => False)) => (fullInts_any (unhide HF W hW).2.1))
      have H2 := hide (fun (W : World) (hW : Fr (fun _ => False) (wr.alloc (.cells #[.slice a0 n0 c0, .slice a1 n1 c1, .slice a2 n2 c2, .slice a3 n3 c3, .int .i64 em] 105)) W (fun _ => False)) => (fullInts_any (unhide HF W hW).2.2.1))
      have H3 := hide (fun (W : World) (hW : Fr (fun _ => False) (wr.alloc (.cells #[.slice a0 n0 c0, .slice a1 n1 c1, .slice a2 n2 c2, .slice a3 n3 c3, .int .i64 em] 105)) W (fun _ => False)) => (fullInts_any (unhide HF W hW).2.2.2))
      have FA := hide fa
      have FW := hide hfr
      have FC := hide (Fr.refl (fun _ => False) (wr.alloc (.cells #[.slice a0 n0 c0, .slice a1 n1 c1, .slice a2 n2 c2, .slice a3 n3 c3, .int .i64 em] 105)))
      have hk0 : (0 : Int) ≤ (j : Int) := by omega
      have hk1 : (j : Int) < (LI.length : Int) := by omega
      have xc := unhide HX _ (unhide FC)
      clear f0 f1 f2 f3 fa xb hb hfr hv2 hv3 HF
      go_wp2_with (go_at_call 47; (first | (refine (unhide H0 _ (unhide FC)).mono ?_; clear H0) | (refine (unhide H1 _ (unhide FC)).mono ?_; clear H1) | (refine (unhide H2 _ (unhide FC)).mono ?_; clear H2) | (refine (unhide H3 _ (unhide FC)).mono ?_; clear H3)); rintro e w' ⟨rfl, hw'⟩; rw [hw']; clear hw' w')
      go_roundw
      case rel => exact ⟨j + 1, by omega, by go_num, (unhide FW).trans (unhide FA)⟩
      case measure => simp [intOf]; omega
    · have hk1 : ¬ (j : Int) < (LI.length : Int) := by omega
      have FW3 := hide hfr
      clear hb hfr
      go_wp2
      clear cb
      go_loopw [5] (fun i wr => ∃ j : Nat, j ≤ LE.length ∧ i = .int .i64 j ∧ Fr (fun _ => False) w wr (fun _ => False)) (fun i _ => LE.length - (intOf i).toNat)
      case atStart => exact ⟨0, Nat.zero_le _, rfl, unhide FW3⟩
      case round =>
        obtain ⟨j, hj, rfl, hfr⟩ := hrel
        have hb := (unhide HB).fr hfr
        have cb := fun i => cell_of_row wr _ i _ 65 (0, 0) hb.blk
        by_cases hlt : j < LE.length
        · obtain ⟨g, cc, hv, k0, k1, k2, k3, k4⟩ := ent_cells hb.rE hlt
          injection hv with hv1 hv2 hv3
          subst hv1
          obtain ⟨f0, f1, f2, f3⟩ := hb.fE _ (List.getElem_mem hlt)
          generalize LE[j] = e at *
          obtain ⟨el, ea, eb, ec, em⟩ := e
          simp only at k0 k1 k2 k3 k4 f0 f1 f2 f3
          obtain ⟨a0, n0, c0, rfl⟩ := f0.shape
          obtain ⟨a1, n1, c1, rfl⟩ := f1.shape
          obtain ⟨a2, n2, c2, rfl⟩ := f2.shape
          obtain ⟨a3, n3, c3, rfl⟩ := f3.shape
          have fa : Fr (fun _ => False) wr (wr.alloc (.cells #[.slice a0 n0 c0, .slice a1 n1 c1, .slice a2 n2 c2, .slice a3 n3 c3, .int .i64 em] 108)) (fun _ => False) := (Fr.refl _ _).alloc _
          have xb := heap_alloc_new wr (.cells #[.slice a0 n0 c0, .slice a1 n1 c1, .slice a2 n2 c2, .slice a3 n3 c3, .int .i64 em] 108)
          have HF := hide (fun (W : World) (hW : Fr (fun _ => False) (wr.alloc (.cells #[.slice a0 n0 c0, .slice a1 n1 c1, .slice a2 n2 c2, .slice a3 n3 c3, .int .i64 em] 108)) W (fun _ => False)) => And.intro (f0.fr (fa.trans hW)) (And.intro (f1.fr (fa.trans hW)) (And.intro (f2.fr (fa.trans hW)) (f3.fr (fa.trans hW)))))
          have HX := hide (fun (W : World) (hW : Fr (fun _ => False) (wr.alloc (.cells #[.slice a0 n0 c0, .slice a1 n1 c1, .slice a2 n2 c2, .slice a3 n3 c3, .int .i64 em] 108)) W (fun _ => False)) (i : Nat) => cell_of_row W _ i _ 108 (0, 0) ((hW.same wr.heap.size (by simp) (fun h => h)).trans xb))
          have H0 := hide (fun (W : World) (hW : Fr (fun _ => False) (wr.alloc (.cells #[.slice a0 n0 c0, .slice a1 n1 c1, .slice a2 n2 c2, .slice a3 n3 c3, .int .i64 em] 108)) W (fun _ => False)) => (fullEvents_any (unhide HF W hW).1))
          have H1 := hide (fun (W : World) (hW : Fr (fun _ => False) (wr.alloc (.cells #[.slice a0 n0 c0, .slice a1 n1 c1, .slice a2 n2 c2, .slice a3 n3 c3, .int .i64 em] 108)) W (fun _ => False)) => (fullEvents_any (unhide HF W hW).2.1))
          have H2 := hide (fun (W : World) (hW : Fr (fun _ => False) (wr.alloc (.cells #[.slice a0 n0 c0, .slice a1 n1 c1, .slice a2 n2 c2, .slice a3 n3 c3, .int .i64 em] 108)) W (fun _ => False)) => (fullEvents_any (unhide HF W hW).2.2.1))
          have H3 := hide (fun (W : World) (hW : Fr (fun _ => False) (wr.alloc (.cells #[.slice a0 n0 c0, .slice a1 n1 c1, .slice a2 n2 c2, .slice a3 n3 c3, .int .i64 em] 108)) W (fun _ => False)) => (fullEvents_any (unhide HF W hW).2.2.2))
          have FA := hide fa
          have FW := hide hfr
          have FC := hide (Fr.refl (fun _ => False) (wr.alloc (.cells #[.slice a0 n0 c0, .slice a1 n1 c1, .slice a2 n2 c2, .slice a3 n3 c3, .int .i64 em] 108)))
          have hk0 : (0 : Int) ≤ (j : Int) := by omega
          have hk1 : (j : Int) < (LE.length : Int) := by omega
          have xc := unhide HX _ (unhide FC)
          clear f0 f1 f2 f3 fa xb hb hfr hv2 hv3 HF
          go_wp2_with (go_at_call 48; (first | (refine (unhide H0 _ (unhide FC)).mono ?_; clear H0) | (refine (unhide H1 _ (unhide FC)).mono ?_; clear H1) | (refine (unhide H2 _ (unhide FC)).mono ?_; clear H2) | (refine (unhide H3 _ (unhide FC)).mono ?_; clear H3)); rintro e w' ⟨rfl, f'⟩; have FC := hide ((unhide FC).trans f'); have xc := unhide HX _ (unhide FC); clear f')
          go_roundw
          case rel => exact ⟨j + 1, by omega, by go_num, ((unhide FW).trans (unhide FA)).trans (unhide FC)⟩
          case measure => simp [intOf]; omega
        · have hk1 : ¬ (j : Int) < (LE.length : Int) := by omega
          have FW5 := hide hfr
          clear hb hfr
          go_wp2
          clear cb
          go_loopw [7] (fun i wr => ∃ j : Nat, j ≤ LN.length ∧ i = .int .i64 j ∧ Fr (fun _ => False) w wr (fun _ => False)) (fun i _ => LN.length - (intOf i).toNat)
          case atStart => exact ⟨0, Nat.zero_le _, rfl, unhide FW5⟩
          case round =>
            obtain ⟨j, hj, rfl, hfr⟩ := hrel
            have hb := (unhide HB).fr hfr
            have cb := fun i => cell_of_row wr _ i _ 65 (0, 0) hb.blk
            by_cases hlt : j < LN.length
            · obtain ⟨g, cc, hv, k0, k1, k2, k3, k4⟩ := ent_cells hb.rN hlt
              injection hv with hv1 hv2 hv3
              subst hv1
              obtain ⟨f0, f1, f2, f3⟩ := hb.fN _ (List.getElem_mem hlt)
              generalize LN[j] = e at *
              obtain ⟨el, ea, eb, ec, em⟩ := e
              simp only at k0 k1 k2 k3 k4 f0 f1 f2 f3
              obtain ⟨a0, n0, c0, rfl⟩ := f0.shape
              obtain ⟨a1, n1, c1, rfl⟩ := f1.shape
              obtain ⟨a2, n2, c2, rfl⟩ := f2.shape
              obtain ⟨a3, n3, c3, rfl⟩ := f3.shape
              have fa : Fr (fun _ => False) wr (wr.alloc (.cells #[.slice a0 n0 c0, .slice a1 n1 c1, .slice a2 n2 c2, .slice a3 n3 c3, .int .i64 em] 111)) (fun _ => False) := (Fr.refl _ _).alloc _
              have xb := heap_alloc_new wr (.cells #[.slice a0 n0 c0, .slice a1 n1 c1, .slice a2 n2 c2, .slice a3 n3 c3, .int .i64 em] 111)
              have HF := hide (fun (W : World) (hW : Fr (fun _ => False) (wr.alloc (.cells #[.slice a0 n0 c0, .slice a1 n1 c1, .slice a2 n2 c2, .slice a3 n3 c3, .int .i64 em] 111)) W (fun _ => False)) => And.intro (f0.fr (fa.trans hW)) (And.intro (f1.fr (fa.trans hW)) (And.intro (f2.fr (fa.trans hW)) (f3.fr (fa.trans hW)))))
              have HX := hide (fun (W : World) (hW : Fr (fun _ => False) (wr.alloc (.cells #[.slice a0 n0 c0, .slice a1 n1 c1, .slice a2 n2 c2, .slice a3 n3 c3, .int .i64 em] 111)) W (fun _ => False)) (i : Nat) => cell_of_row W _ i _ 111 (0, 0) ((hW.same wr.heap.size (by simp) (fun h => h)).trans xb))
              have H0 := hide (fun (W : World) (hW : Fr (fun _ => False) (wr.alloc (.cells #[.slice a0 n0 c0, .slice a1 n1 c1, .slice a2 n2 c2, .slice a3 n3 c3, .int .i64 em] 111)) W (fun _ => False)) => (fullInputs_any (unhide HF W hW).1))
              have H1 := hide (fun (W : World) (hW : Fr (fun _ => False) (wr.alloc (.cells #[.slice a0 n0 c0, .slice a1 n1 c1, .slice a2 n2 c2, .slice a3 n3 c3, .int .i64 em] 111)) W (fun _ => False)) => (fullInputs_any (unhide HF W hW).2.1))
              have H2 := hide (fun (W : World) (hW : Fr (fun _ => False) (wr.alloc (.cells #[.slice a0 n0 c0, .slice a1 n1 c1, .slice a2 n2 c2, .slice a3 n3 c3, .int .i64 em] 111)) W (fun _ => False)) => (fullInputs_any (unhide HF W hW).2.2.1))
              have H3 := hide (fun (W : World) (hW : Fr (fun _ => False) (wr.alloc (.cells #[.slice a0 n0 c0, .slice a1 n1 c1, .slice a2 n2 c2, .slice a3 n3 c3, .int .i64 em] 111)) W (fun _ => False)) => (fullInputs_any (unhide HF W hW).2.2.2))
              have FA := hide fa
              have FW := hide hfr
              have FC := hide (Fr.refl (fun _ => False) (wr.alloc (.cells #[.slice a0 n0 c0, .slice a1 n1 c1, .slice a2 n2 c2, .slice a3 n3 c3, .int .i64 em] 111)))
              have hk0 : (0 : Int) ≤ (j : Int) := by omega
              have hk1 : (j : Int) < (LN.length : Int) := by omega
              have xc := unhide HX _ (unhide FC)
              clear f0 f1 f2 f3 fa xb hb hfr hv2 hv3 HF
              go_wp2_with (go_at_call 49; (first | (refine (unhide H0 _ (unhide FC)).mono ?_; clear H0) | (refine (unhide H1 _ (unhide FC)).mono ?_; clear H1) | (refine (unhide H2 _ (unhide FC)).mono ?_; clear H2) | (refine (unhide H3 _ (unhide FC)).mono ?_; clear H3)); rintro e w' ⟨rfl, hw'⟩; rw [hw']; clear hw' w')
              go_roundw
              case rel => exact ⟨j + 1, by omega, by go_num, (unhide FW).trans (unhide FA)⟩
              case measure => simp [intOf]; omega
            · have hk1 : ¬ (j : Int) < (LN.length : Int) := by omega
              have FW7 := hide hfr
              clear hb hfr
              go_wp2
              go_ret
              exact ⟨rfl, unhide FW7⟩
end Go.Proofs.YtfmbebofllgmoaaGreatDoor
namespace Go.Proofs.YtfmbebofllgmoaaGreatDoor
open Go.RowKit

/-- Where a slice with elements lies. -/
def LiesIn (v : Value) (K : Nat → Prop) : Prop := ∀ q off n c, v = .slice (some ⟨q, off, none⟩) n c → 0 < n → K q
theorem LiesIn.mono {v : Value} {K K' : Nat → Prop} (h : LiesIn v K) (hk : ∀ q, K q → K' q) : LiesIn v K' := fun q off n c hv hn => hk q (h q off n c hv hn)
section
variable {w W : World} {v : Value} {m : Int} {K : Nat → Prop}
theorem FullI.keep (h : FullI w v m) (hl : LiesIn v K) (hk : ∀ q, K q → W.heap[q]? = w.heap[q]?) : FullI W v m := by
  obtain ⟨a, n, c, rfl, hn, hc⟩ := h
  refine ⟨a, n, c, rfl, hn, ?_⟩
  rcases Nat.eq_zero_or_pos n with h0 | h0
  · exact .inl h0
  rcases hc with h1 | ⟨q, off, rfl, hcell⟩
  · omega
  have hq := hk q (hl q off n c rfl h0)
  exact .inr ⟨q, off, rfl, fun i hi => by rw [cellOf_heap hq]; exact hcell i hi⟩
theorem FullE.keep (h : FullE w v m) (hl : LiesIn v K) (hk : ∀ q, K q → W.heap[q]? = w.heap[q]?) : FullE W v m := by
  obtain ⟨a, n, c, rfl, hn, hc⟩ := h
  refine ⟨a, n, c, rfl, hn, ?_⟩
  rcases Nat.eq_zero_or_pos n with h0 | h0
  · exact .inl h0
  rcases hc with h1 | ⟨q, off, rfl, hcell⟩
  · omega
  have hq := hk q (hl q off n c rfl h0)
  exact .inr ⟨q, off, rfl, fun i hi => by rw [cellOf_heap hq, cellOf_heap hq, cellOf_heap hq]; exact hcell i hi⟩
theorem FullN.keep (h : FullN w v m) (hl : LiesIn v K) (hk : ∀ q, K q → W.heap[q]? = w.heap[q]?) : FullN W v m := by
  obtain ⟨a, n, c, rfl, hn, hc⟩ := h
  refine ⟨a, n, c, rfl, hn, ?_⟩
  rcases Nat.eq_zero_or_pos n with h0 | h0
  · exact .inl h0
  rcases hc with h1 | ⟨q, off, rfl, hcell⟩
  · omega
  have hq := hk q (hl q off n c rfl h0)
  exact .inr ⟨q, off, rfl, fun i hi => by rw [cellOf_heap hq, cellOf_heap hq, cellOf_heap hq, cellOf_heap hq]; exact hcell i hi⟩
/-- An own row of one number. -/
theorem OwnI.full {B : Nat} {l : List Int} (h : OwnI w B v l) (hl : l.length ≤ 1000000000) (hm : ∀ z, z ∈ l → z = m) : FullI w v m := by
  obtain ⟨a, c, hv, hc⟩ := ownI_ints h
  refine ⟨a, l.length, c, hv, hl, ?_⟩
  rcases hc with h0 | ⟨q, off, ha, _, hcell⟩
  · exact .inl (by rw [h0]; rfl)
  · refine .inr ⟨q, off, ha, fun i hi => ?_⟩
    rw [hcell i hi]
    have : l.getD i 0 = m := by
      rw [List.getD_eq_getElem?_getD, List.getElem?_eq_getElem hi]
      exact hm _ (List.getElem_mem hi)
    rw [this]
theorem own_lies : LiesIn v (own v) := fun q off n' c hv _ => by
  rw [hv]; rfl
end
/-- The Book, and where its lists lie. -/
structure BookK (w : World) (B bb : Nat) (n : Int) (vI vE vN : Value) (LI LE LN : List Ent) (K : Nat → Prop) : Prop where
  bk : BookIn w B bb n vI vE vN LI LE LN
  lI : ∀ e, e ∈ LI → LiesIn e.l K ∧ LiesIn e.a K ∧ LiesIn e.b K ∧ LiesIn e.c K
  lE : ∀ e, e ∈ LE → LiesIn e.l K ∧ LiesIn e.a K ∧ LiesIn e.b K ∧ LiesIn e.c K
  lN : ∀ e, e ∈ LN → LiesIn e.l K ∧ LiesIn e.a K ∧ LiesIn e.b K ∧ LiesIn e.c K
  apart : ∀ q, K q → q < w.heap.size ∧ q ≠ bb ∧ ¬ own vI q ∧ ¬ own vE q ∧ ¬ own vN q
theorem BookK.fr {w W : World} {B bb : Nat} {n : Int} {vI vE vN : Value} {LI LE LN : List Ent} {K : Nat → Prop} (h : BookK w B bb n vI vE vN LI LE LN K) (hf : Fr (fun _ => False) w W (fun _ => False)) : BookK W B bb n vI vE vN LI LE LN K :=
  ⟨h.bk.fr hf, h.lI, h.lE, h.lN, fun q hq => ⟨Nat.lt_of_lt_of_le (h.apart q hq).1 hf.size, (h.apart q hq).2⟩⟩
end Go.Proofs.YtfmbebofllgmoaaGreatDoor
namespace Go.Proofs.YtfmbebofllgmoaaGreatDoor
open Go.RowKit

theorem wpList_both {ops : Array Oper} {rest : List Oper} {o : Oper} {a : Act} {Q : Exit → Act → World → Prop} {w : World} {B t e size bytes : Nat} (E : Elem t e size bytes) (hs0 : 0 < size) (hs1 : bytes ≤ 200) {v : Value} {n m : Nat} {xs news : List Value} (hgd : o.guard = none) (sv xv : Operand)
    (ho : o.op = .call { callee := .builtin .append, args := #[sv, xv], argTypes := #[t, t] }) {ad : Addr} {cap : Nat} (hs : a.eval sv = v) (hx : a.eval xv = .slice (some ad) m cap) (hrow : w.ownsRow B e size v n xs) (hl : news.length = m * size)
    (hc : ∀ j u, news[j]? = some u → w.cell? (ad.add j) = some u) (h1 : ∀ u ∈ news, u.oneCell' = true) (hm : 0 < m) (hn : n + m ≤ 100000000000) (hB : B ≤ w.heap.size)
    (h : ∀ v' w', (∃ a c, v' = .slice a (n + m) c) → w'.ownsRow B e size v' (n + m) (xs ++ news) →
      ((∃ g cp, v = .slice (some ⟨g, 0, none⟩) n cp ∧ v' = .slice (some ⟨g, 0, none⟩) (n + m) cp ∧ n + m ≤ cp ∧ w.grownBy w' (some g)) ∨ (w.grownBy w' none ∧ ∀ q, own v' q → w.heap.size ≤ q)) → wpList Tryz.prog ops Q rest (a.put o.dst v') w') : wpList Tryz.prog ops Q (o :: rest) a w := by
  obtain ⟨i, z, hi, hz, hsz, hby, hzc⟩ := E.i
  have hmx : n + m ≤ maxLen := by simp only [maxLen]; omega
  have hbb : (n + m) * bytes ≤ 140737488355328 := Nat.le_trans (Nat.mul_le_mul hn hs1) (by omega)
  have hlen : xs.length = n * size := hrow.1
  have fresh : ∀ v' w', w'.ownsRow w.heap.size e size v' (n + m) (xs ++ news) → w.grownBy w' none → wpList Tryz.prog ops Q rest (a.put o.dst v') w' := fun v' w' r1 r2 =>
    h v' w' (row_shape r1) (ownsRow_low r1 hB) (.inr ⟨r2, fun q hq => (World.ownsRow.lt r1 q hq).1⟩)
  rcases hrow.2 with ⟨hv, h0⟩ | ⟨g, cp, cur, hv, hBg, hg, hcp, hcm, hcs, htk⟩
  · subst h0
    have hx0 : xs = [] := List.eq_nil_of_length_eq_zero (by rw [hlen]; simp)
    refine wpList_append_grows (P := Tryz.prog) w hgd sv xv t ho e i z size bytes E.u hi hz hsz hby hzc hs0 none 0 0 xs (by rw [hs, hv]) (fun _ => ⟨rfl, rfl⟩) (by rw [hx0]; simp) (fun b hb => by cases hb) ad m cap news hx hl hc h1 (by omega) hmx hbb fresh
  · by_cases hr : n + m ≤ cp
    · refine wpList_append_own_spare (P := Tryz.prog) w hgd sv xv t ho B e i size E.u hi hsz g n cp xs (by rw [hs, hv]) (hv ▸ hrow) ad m cap news hx hl hc h1 hr ?_
      intro w' r1 r2
      exact h _ w' ⟨_, _, rfl⟩ r1 (.inl ⟨g, cp, hv, rfl, hr, r2⟩)
    · refine wpList_append_grows (P := Tryz.prog) w hgd sv xv t ho e i z size bytes E.u hi hz hsz hby hzc hs0 (some ⟨g, 0, none⟩) n cp xs (by rw [hs, hv]) (fun h => by cases h) hlen (fun b hb j u hj => ?_) ad m cap news hx hl hc h1 (by omega) hmx hbb fresh
      cases hb
      obtain ⟨g2, c2, hv2, _, _, hcell⟩ := row_cell hrow (by
        have := (List.getElem?_eq_some_iff.1 hj).1
        rw [hlen] at this
        rcases Nat.eq_zero_or_pos n with h0 | h0
        · rw [h0] at this; simp at this
        · exact h0)
      rw [hv] at hv2
      cases hv2
      have hh := hcell j u hj
      rw [show Addr.add ⟨g, 0, none⟩ j = ⟨g, j, none⟩ by rw [addr_add, Nat.zero_add]]
      exact hh

/-- A list of marks that was made of an own list: in its block, or in a block of its own. -/
def MadeI (w : World) (lv : Value) (n : Nat) (u : Value) (k : Nat) (m : Int) : Prop :=
  FullI w u m ∧ ((∃ g cp, lv = .slice (some ⟨g, 0, none⟩) n cp ∧ u = .slice (some ⟨g, 0, none⟩) (n + k) cp) ∨ (∀ q, own u q → ¬ own lv q ∧ ∃ cur, w.heap[q]? = some (.cells cur 3 (0, 0))))
/-- One more append of marks keeps what was made. -/
theorem MadeI.step {w w' : World} {B : Nat} {lv u v' : Value} {n k j : Nat} {m : Int} {l : List Int} (h : MadeI w lv n u k m) (hk : k ≤ j) (hn : n + j ≤ 1000000000) (hr : w'.ownsRow B 3 1 v' (n + j) (l.map fun z => Value.int .i64 z)) (hm : ∀ z, z ∈ l → z = m)
    (hd : (∃ g cp, lv = .slice (some ⟨g, 0, none⟩) n cp ∧ v' = .slice (some ⟨g, 0, none⟩) (n + j) cp ∧ n + j ≤ cp ∧ w.grownBy w' (some g)) ∨ (w.grownBy w' none ∧ ∀ q, own v' q → w.heap.size ≤ q)) : MadeI w' lv n u k m := by
  obtain ⟨hf, hp⟩ := h
  rcases hd with ⟨g, cp, hlv, hv', hroom, hg⟩ | ⟨hg, _⟩
  · rcases hp with ⟨g2, cp2, hlv2, hu⟩ | hp
    · rw [hlv] at hlv2
      cases hlv2
      refine ⟨?_, .inl ⟨g, cp, hlv, hu⟩⟩
      subst hv'
      have hll : l.length = n + j := by have := hr.1; simpa using this
      obtain ⟨hcell⟩ : Nonempty (∀ i, i < n + j → w'.cell? ⟨g, i, none⟩ = some (.int .i64 m)) := ⟨fun i hi => by
        obtain ⟨g3, c3, hv3, _, _, hc3⟩ := row_cell hr (by omega)
        cases hv3
        have hi' : i < l.length := by omega
        refine hc3 i _ ?_
        rw [List.getElem?_map, List.getElem?_eq_getElem hi']
        simp only [Option.map_some]
        rw [hm _ (List.getElem_mem hi')]⟩
      exact ⟨some ⟨g, 0, none⟩, n + k, cp, hu, by omega, .inr ⟨g, 0, rfl, fun i hi => by rw [Nat.zero_add]; exact hcell i (by omega)⟩⟩
    · have hk' : ∀ q, own u q → w'.heap[q]? = w.heap[q]? := fun q hq => hg.block q (by obtain ⟨cur, hcur⟩ := (hp q hq).2; exact (Array.getElem?_eq_some_iff.1 hcur).1) (fun e => (hp q hq).1 (by rw [hlv]; simp only [own, Value.ownBlock]; exact e.symm))
      exact ⟨hf.keep own_lies hk', .inr (fun q hq => ⟨(hp q hq).1, by obtain ⟨cur, hcur⟩ := (hp q hq).2; exact ⟨cur, (hk' q hq).trans hcur⟩⟩)⟩
  · have hall : ∀ q, q < w.heap.size → w'.heap[q]? = w.heap[q]? := fun q hq => hg.block q hq (by simp)
    refine ⟨?_, hp.imp id (fun hp q hq => ⟨(hp q hq).1, by obtain ⟨cur, hcur⟩ := (hp q hq).2; exact ⟨cur, (hall q (Array.getElem?_eq_some_iff.1 hcur).1).trans hcur⟩⟩)⟩
    obtain ⟨a, nn, c, hv, hnn, hc⟩ := hf
    exact ⟨a, nn, c, hv, hnn, hc.imp id fun ⟨q, off, e, hcell⟩ => ⟨q, off, e, fun i hi => by rw [cellOf_heap (hall q (World.block_lt_of_cell? w _ (hcell i hi)))]; exact hcell i hi⟩⟩
/-- A store elsewhere keeps what was made. -/
theorem MadeI.store {w : World} {lv u v : Value} {n k X j : Nat} {m : Int} {cX : Array Value} {e : Nat} (h : MadeI w lv n u k m) (hX : w.heap[X]? = some (.cells cX e (0, 0))) (he : e ≠ 3) (hlv : ¬ own lv X) : MadeI (w.setCell ⟨X, j, none⟩ v) lv n u k m := by
  obtain ⟨hf, hp⟩ := h
  have hk : ∀ q, q ≠ X → (w.setCell ⟨X, j, none⟩ v).heap[q]? = w.heap[q]? := fun q hq => Below.heap_setCell _ _ _ _ hq
  rcases hp with ⟨g, cp, hl, hu⟩ | hp
  · refine ⟨hf.keep (K := fun q => q = g) (fun q off n' c hv _ => by rw [hu] at hv; cases hv; rfl) (fun q hq => hk q (fun e => hlv (by rw [hl, ← e, hq]; rfl))), .inl ⟨g, cp, hl, hu⟩⟩
  · have hne : ∀ q, own u q → q ≠ X := fun q hq e' => by
      obtain ⟨cur, hcur⟩ := (hp q hq).2
      rw [e', hX] at hcur
      injection hcur with hcur
      injection hcur with _ hcur
      exact he hcur
    exact ⟨hf.keep own_lies (fun q hq => hk q (hne q hq)), .inr (fun q hq => ⟨(hp q hq).1, by obtain ⟨cur, hcur⟩ := (hp q hq).2; exact ⟨cur, (hk q (hne q hq)).trans hcur⟩⟩)⟩
/-- One append of marks to an own list, and the store of what came of it into the entry's block. -/
theorem keep_one {U wa : World} {B X : Nat} {lv va : Value} {n j k : Nat} {m : Int} {rep : List Int} {cX : Array Value} (hrep : rep.length = n) (hm : ∀ z, z ∈ rep → z = m) (hn : n + j ≤ 1000000000) (ho : OwnI U B lv rep) (hX : U.heap[X]? = some (.cells cX 105 (0, 0)))
    (ra : wa.ownsRow B 3 1 va (n + j) ((rep ++ List.replicate j m).map fun z => Value.int .i64 z))
    (hd : (∃ g cp, lv = .slice (some ⟨g, 0, none⟩) n cp ∧ va = .slice (some ⟨g, 0, none⟩) (n + j) cp ∧ n + j ≤ cp ∧ U.grownBy wa (some g)) ∨ (U.grownBy wa none ∧ ∀ q, own va q → U.heap.size ≤ q)) :
    OwnI (wa.setCell ⟨X, k, none⟩ va) B lv rep ∧ (wa.setCell ⟨X, k, none⟩ va).heap[X]? = some (.cells (cX.setIfInBounds k va) 105 (0, 0)) ∧ MadeI (wa.setCell ⟨X, k, none⟩ va) lv n va j m ∧ (∀ u i, i ≤ j → MadeI U lv n u i m → MadeI (wa.setCell ⟨X, k, none⟩ va) lv n u i m) ∧
      Fr (fun q => own lv q ∨ q = X) U (wa.setCell ⟨X, k, none⟩ va) (fun q => own lv q ∨ q = X)  ∧ (∀ q, own va q → own lv q ∨ U.heap.size ≤ q) := by
  have hXl : ¬ own lv X := fun hq => by
    obtain ⟨c, hc⟩ := row_d ho hq
    rw [hX] at hc
    injection hc with hc
    injection hc with _ hc
    exact absurd hc (by decide)
  have old : ∀ q, q < U.heap.size → ¬ own lv q → wa.heap[q]? = U.heap[q]? := fun q hq hn => by
    rcases hd with ⟨g, cp, hl, _, _, hg⟩ | ⟨hg, _⟩
    · exact hg.block q hq (fun e => hn (by rw [hl]; simp only [own, Value.ownBlock]; exact e.symm))
    · exact hg.block q hq (by simp)
  have hXlt := (Array.getElem?_eq_some_iff.1 hX).1
  have hXa : wa.heap[X]? = some (.cells cX 105 (0, 0)) := (old X hXlt hXl).trans hX
  have hsz : U.heap.size ≤ wa.heap.size := by rcases hd with ⟨_, _, _, _, _, hg⟩ | ⟨hg, _⟩ <;> exact hg.size
  have hmm : ∀ z, z ∈ rep ++ List.replicate j m → z = m := fun z hz => by
    rcases List.mem_append.1 hz with h | h
    · exact hm z h
    · exact List.eq_of_mem_replicate h
  have hol : OwnI wa B lv rep := by
    rcases hd with ⟨g, cp, hl, hv, hr, hg⟩ | ⟨hg, _⟩
    · subst hl hv
      rw [List.map_append] at ra
      have := row_prefix ra (by rw [List.length_map, hrep]; omega)
      unfold OwnI
      rw [hrep]
      exact this
    · exact ownsRow_of_block ho (fun q hq => hg.block q (World.ownsRow.lt ho q hq).2 (by simp))
  have hmade : MadeI wa lv n va j m := by
    have hfull : FullI wa va m := OwnI.full (l := rep ++ List.replicate j m) (by unfold OwnI; rw [List.length_append, List.length_replicate, hrep]; exact ra) (by rw [List.length_append, List.length_replicate, hrep]; exact hn) hmm
    refine ⟨hfull, ?_⟩
    rcases hd with ⟨g, cp, hl, hv, _, _⟩ | ⟨_, hf⟩
    · exact .inl ⟨g, cp, hl, hv⟩
    · exact .inr (fun q hq => ⟨fun h => by have h1 := hf q hq; have h2 := (World.ownsRow.lt ho q h).2; omega, row_d ra hq⟩)
  refine ⟨ownsRow_of_block hol (fun q hq => Below.heap_setCell _ _ _ _ (fun e => hXl (by have e' : q = X := e; rw [← e']; exact hq))), setCell_row wa X k cX 105 va hXa, hmade.store hXa (by decide) hXl, fun u i hi hu => (hu.step hi hn ra hmm hd).store hXa (by decide) hXl, ?_⟩
  have h3 : wa.os = U.os ∧ wa.tape = U.tape ∧ wa.output = U.output := by rcases hd with ⟨_, _, _, _, _, hg⟩ | ⟨hg, _⟩ <;> exact ⟨hg.os, hg.tape, hg.output⟩
  refine ⟨⟨h3.1, h3.2.1, h3.2.2, by simpa [World.setCell] using hsz, fun q hq hn => (Below.heap_setCell _ _ _ _ (fun e => hn (.inr e))).trans (old q hq (fun h => hn (.inl h))), fun _ _ h => h⟩, fun q hq => ?_⟩
  rcases hd with ⟨g, cp, hl, hv, _, _⟩ | ⟨_, hf⟩
  · left; rw [hl]; rw [hv] at hq; exact hq
  · exact .inr (hf q hq)
end Go.Proofs.YtfmbebofllgmoaaGreatDoor
namespace Go.Proofs.YtfmbebofllgmoaaGreatDoor
open Go.RowKit

theorem Fr.widen {S S' T : Nat → Prop} {w w' : World} (h : Fr S w w' S') (hs : ∀ q, S q → T q) : Fr T w w' T :=
  ⟨h.os, h.tape, h.output, h.size, fun k hk hn => h.same k hk (fun e => hn (hs k e)), fun _ _ h => h⟩
theorem ty_one {w : World} {q : Nat} {a b : Array Value} {s t : Nat} (h1 : w.heap[q]? = some (.cells a s (0, 0))) (h2 : w.heap[q]? = some (.cells b t (0, 0))) : s = t := by
  rw [h1] at h2
  injection h2 with h2
  injection h2
theorem own_ty {w : World} {B e size n q t : Nat} {v : Value} {xs : List Value} {c : Array Value} (h : w.ownsRow B e size v n xs) (hq : w.heap[q]? = some (.cells c t (0, 0))) (ht : t ≠ e) : ¬ own v q := fun ho => by
  obtain ⟨cur, hc⟩ := row_d h ho
  exact ht (ty_one hq hc)
section
variable {w W : World} {B bb : Nat} {n n' : Int} {vI vE vN v' : Value} {LI LE LN : List Ent} {K K2 T : Nat → Prop} {e : Ent}
/-- The Book where blocks that it does not hang on have turned, and its count. -/
theorem BookK.mid (h : BookK w B bb n vI vE vN LI LE LN K) (hf : Fr T w W T) (hT : ∀ q, q < w.heap.size → T q → q = bb ∨ (¬ K q ∧ ¬ own vI q ∧ ¬ own vE q ∧ ¬ own vN q)) (hbb : W.heap[bb]? = some (.cells #[.int .i64 n', vI, vE, vN] 65)) : BookK W B bb n' vI vE vN LI LE LN K := by
  have rI : ∀ q, own vI q → W.heap[q]? = w.heap[q]? := fun q hq => hf.same q (World.ownsRow.lt h.bk.rI q hq).2 (fun ht => by
    rcases hT q (World.ownsRow.lt h.bk.rI q hq).2 ht with rfl | hh
    · exact own_ty h.bk.rI h.bk.blk (by decide) hq
    · exact hh.2.1 hq)
  have rE : ∀ q, own vE q → W.heap[q]? = w.heap[q]? := fun q hq => hf.same q (World.ownsRow.lt h.bk.rE q hq).2 (fun ht => by
    rcases hT q (World.ownsRow.lt h.bk.rE q hq).2 ht with rfl | hh
    · exact own_ty h.bk.rE h.bk.blk (by decide) hq
    · exact hh.2.2.1 hq)
  have rN : ∀ q, own vN q → W.heap[q]? = w.heap[q]? := fun q hq => hf.same q (World.ownsRow.lt h.bk.rN q hq).2 (fun ht => by
    rcases hT q (World.ownsRow.lt h.bk.rN q hq).2 ht with rfl | hh
    · exact own_ty h.bk.rN h.bk.blk (by decide) hq
    · exact hh.2.2.2 hq)
  have hk : ∀ q, K q → W.heap[q]? = w.heap[q]? := fun q hq => hf.same q (h.apart q hq).1 (fun ht => by
    rcases hT q (h.apart q hq).1 ht with e | hh
    · exact (h.apart q hq).2.1 e
    · exact hh.1 hq)
  refine ⟨⟨hbb, ownsRow_of_block h.bk.rI rI, ownsRow_of_block h.bk.rE rE, ownsRow_of_block h.bk.rN rN, fun e he => ?_, fun e he => ?_, fun e he => ?_⟩, h.lI, h.lE, h.lN, fun q hq => ⟨Nat.lt_of_lt_of_le (h.apart q hq).1 hf.size, (h.apart q hq).2⟩⟩
  · obtain ⟨f1, f2, f3, f4⟩ := h.bk.fI e he
    obtain ⟨l1, l2, l3, l4⟩ := h.lI e he
    exact ⟨f1.keep l1 hk, f2.keep l2 hk, f3.keep l3 hk, f4.keep l4 hk⟩
  · obtain ⟨f1, f2, f3, f4⟩ := h.bk.fE e he
    obtain ⟨l1, l2, l3, l4⟩ := h.lE e he
    exact ⟨f1.keep l1 hk, f2.keep l2 hk, f3.keep l3 hk, f4.keep l4 hk⟩
  · obtain ⟨f1, f2, f3, f4⟩ := h.bk.fN e he
    obtain ⟨l1, l2, l3, l4⟩ := h.lN e he
    exact ⟨f1.keep l1 hk, f2.keep l2 hk, f3.keep l3 hk, f4.keep l4 hk⟩
/-- One more list of kind I. -/
theorem BookK.addI (h : BookK w B bb n vI vE vN LI LE LN K) (hfull : FullI w e.l e.m ∧ FullI w e.a e.m ∧ FullI w e.b e.m ∧ FullI w e.c e.m) (hl : LiesIn e.l K2 ∧ LiesIn e.a K2 ∧ LiesIn e.b K2 ∧ LiesIn e.c K2) (hk2 : ∀ q, K2 q → ∃ cur, w.heap[q]? = some (.cells cur 3 (0, 0)))
    (hr : W.ownsRow B 105 5 v' (LI.length + 1) (flat5 LI ++ [e.l, e.a, e.b, e.c, .int .i64 e.m])) (hf : Fr (own vI) w W (own v')) : BookK (W.setCell ⟨bb, 1, none⟩ v') B bb n v' vE vN (LI ++ [e]) LE LN (fun q => K q ∨ K2 q) := by
  have hbl := (Array.getElem?_eq_some_iff.1 h.bk.blk).1
  have hbn : ¬ own vI bb := own_ty h.bk.rI h.bk.blk (by decide)
  have hbW : W.heap[bb]? = some (.cells #[.int .i64 n, vI, vE, vN] 65) := (hf.same bb hbl hbn).trans h.bk.blk
  have hsz : (W.setCell ⟨bb, 1, none⟩ v').heap.size = W.heap.size := by simp [World.setCell]
  have kq : ∀ q, q ≠ bb → (W.setCell ⟨bb, 1, none⟩ v').heap[q]? = W.heap[q]? := fun q hq => Below.heap_setCell _ _ _ _ hq
  have keepq : ∀ q, q < w.heap.size → ¬ own vI q → q ≠ bb → (W.setCell ⟨bb, 1, none⟩ v').heap[q]? = w.heap[q]? := fun q h1 h2 h3 => (kq q h3).trans (hf.same q h1 h2)
  have rE : ∀ q, own vE q → (W.setCell ⟨bb, 1, none⟩ v').heap[q]? = w.heap[q]? := fun q hq => by
    obtain ⟨cur, hc⟩ := row_d h.bk.rE hq
    exact keepq q (World.ownsRow.lt h.bk.rE q hq).2 (own_ty h.bk.rI hc (by decide)) (fun e => own_ty h.bk.rE h.bk.blk (by decide) (e ▸ hq))
  have rN : ∀ q, own vN q → (W.setCell ⟨bb, 1, none⟩ v').heap[q]? = w.heap[q]? := fun q hq => by
    obtain ⟨cur, hc⟩ := row_d h.bk.rN hq
    exact keepq q (World.ownsRow.lt h.bk.rN q hq).2 (own_ty h.bk.rI hc (by decide)) (fun e => own_ty h.bk.rN h.bk.blk (by decide) (e ▸ hq))
  have hrow : (W.setCell ⟨bb, 1, none⟩ v').ownsRow B 105 5 v' (LI ++ [e]).length (flat5 (LI ++ [e])) := by
    rw [flat5_append, List.length_append]
    exact ownsRow_of_block hr (fun q hq => kq q (fun e => own_ty hr hbW (by decide) (e ▸ hq)))
  have hk : ∀ q, K q → (W.setCell ⟨bb, 1, none⟩ v').heap[q]? = w.heap[q]? := fun q hq => keepq q (h.apart q hq).1 (h.apart q hq).2.2.1 (h.apart q hq).2.1
  have a2 : ∀ q, K2 q → q < w.heap.size ∧ q ≠ bb ∧ ¬ own vI q ∧ ¬ own vE q ∧ ¬ own vN q := fun q hq => by
    obtain ⟨cur, hc⟩ := hk2 q hq
    exact ⟨(Array.getElem?_eq_some_iff.1 hc).1, fun e => absurd (ty_one (e ▸ hc) h.bk.blk) (by decide), own_ty h.bk.rI hc (by decide), own_ty h.bk.rE hc (by decide), own_ty h.bk.rN hc (by decide)⟩
  have hk2' : ∀ q, K2 q → (W.setCell ⟨bb, 1, none⟩ v').heap[q]? = w.heap[q]? := fun q hq => keepq q (a2 q hq).1 (a2 q hq).2.2.1 (a2 q hq).2.1
  have hset := setCell_row W bb 1 _ 65 v' hbW
  have fold : ∀ {P : World → Value → Int → Prop} {L : List Ent}, (∀ v m, P w v m → LiesIn v K → P (W.setCell ⟨bb, 1, none⟩ v') v m) → (∀ e, e ∈ L → P w e.l e.m ∧ P w e.a e.m ∧ P w e.b e.m ∧ P w e.c e.m) → (∀ e, e ∈ L → LiesIn e.l K ∧ LiesIn e.a K ∧ LiesIn e.b K ∧ LiesIn e.c K) → ∀ e, e ∈ L → P (W.setCell ⟨bb, 1, none⟩ v') e.l e.m ∧ P (W.setCell ⟨bb, 1, none⟩ v') e.a e.m ∧ P (W.setCell ⟨bb, 1, none⟩ v') e.b e.m ∧ P (W.setCell ⟨bb, 1, none⟩ v') e.c e.m := fun hp hf hl e he =>
    ⟨hp _ _ (hf e he).1 (hl e he).1, hp _ _ (hf e he).2.1 (hl e he).2.1, hp _ _ (hf e he).2.2.1 (hl e he).2.2.1, hp _ _ (hf e he).2.2.2 (hl e he).2.2.2⟩
  have gI := fold (P := FullI) (fun v m hp hl => hp.keep hl hk) h.bk.fI h.lI
  have gE := fold (P := FullE) (fun v m hp hl => hp.keep hl hk) h.bk.fE h.lE
  have gN := fold (P := FullN) (fun v m hp hl => hp.keep hl hk) h.bk.fN h.lN
  have lift : ∀ {L : List Ent}, (∀ e, e ∈ L → LiesIn e.l K ∧ LiesIn e.a K ∧ LiesIn e.b K ∧ LiesIn e.c K) → ∀ e, e ∈ L → LiesIn e.l (fun q => K q ∨ K2 q) ∧ LiesIn e.a (fun q => K q ∨ K2 q) ∧ LiesIn e.b (fun q => K q ∨ K2 q) ∧ LiesIn e.c (fun q => K q ∨ K2 q) := fun hl e he =>
    ⟨(hl e he).1.mono fun _ => .inl, (hl e he).2.1.mono fun _ => .inl, (hl e he).2.2.1.mono fun _ => .inl, (hl e he).2.2.2.mono fun _ => .inl⟩
  have gI' : ∀ x, x ∈ LI ++ [e] → FullI (W.setCell ⟨bb, 1, none⟩ v') x.l x.m ∧ FullI (W.setCell ⟨bb, 1, none⟩ v') x.a x.m ∧ FullI (W.setCell ⟨bb, 1, none⟩ v') x.b x.m ∧ FullI (W.setCell ⟨bb, 1, none⟩ v') x.c x.m := fun x hx => by
    rcases List.mem_append.1 hx with hx | hx
    · exact gI x hx
    · rw [List.mem_singleton] at hx
      subst hx
      exact ⟨hfull.1.keep hl.1 hk2', hfull.2.1.keep hl.2.1 hk2', hfull.2.2.1.keep hl.2.2.1 hk2', hfull.2.2.2.keep hl.2.2.2 hk2'⟩
  have lI' : ∀ x, x ∈ LI ++ [e] → LiesIn x.l (fun q => K q ∨ K2 q) ∧ LiesIn x.a (fun q => K q ∨ K2 q) ∧ LiesIn x.b (fun q => K q ∨ K2 q) ∧ LiesIn x.c (fun q => K q ∨ K2 q) := fun x hx => by
    rcases List.mem_append.1 hx with hx | hx
    · exact lift h.lI x hx
    · rw [List.mem_singleton] at hx
      subst hx
      exact ⟨hl.1.mono fun _ => .inr, hl.2.1.mono fun _ => .inr, hl.2.2.1.mono fun _ => .inr, hl.2.2.2.mono fun _ => .inr⟩
  have nv : ∀ q, q < w.heap.size → ¬ own vI q → ¬ own v' q := fun q hq hn hv => hn (hf.old q hq hv)
  refine ⟨⟨hset, hrow, ownsRow_of_block h.bk.rE rE, ownsRow_of_block h.bk.rN rN, gI', gE, gN⟩, lI', lift h.lE, lift h.lN, fun q hq => ?_⟩
  rw [hsz]
  rcases hq with hq | hq
  · obtain ⟨x0, x1, x2, x3, x4⟩ := h.apart q hq
    exact ⟨Nat.lt_of_lt_of_le x0 hf.size, x1, nv q x0 x2, x3, x4⟩
  · obtain ⟨x0, x1, x2, x3, x4⟩ := a2 q hq
    exact ⟨Nat.lt_of_lt_of_le x0 hf.size, x1, nv q x0 x2, x3, x4⟩
/-- One more list of kind N. -/
theorem BookK.addN (h : BookK w B bb n vI vE vN LI LE LN K) (hfull : FullN w e.l e.m ∧ FullN w e.a e.m ∧ FullN w e.b e.m ∧ FullN w e.c e.m) (hl : LiesIn e.l K2 ∧ LiesIn e.a K2 ∧ LiesIn e.b K2 ∧ LiesIn e.c K2) (hk2 : ∀ q, K2 q → ∃ cur, w.heap[q]? = some (.cells cur 49 (0, 0)))
    (hr : W.ownsRow B 111 5 v' (LN.length + 1) (flat5 LN ++ [e.l, e.a, e.b, e.c, .int .i64 e.m])) (hf : Fr (own vN) w W (own v')) : BookK (W.setCell ⟨bb, 3, none⟩ v') B bb n vI vE v' LI LE (LN ++ [e]) (fun q => K q ∨ K2 q) := by
  have hbl := (Array.getElem?_eq_some_iff.1 h.bk.blk).1
  have hbn : ¬ own vN bb := own_ty h.bk.rN h.bk.blk (by decide)
  have hbW : W.heap[bb]? = some (.cells #[.int .i64 n, vI, vE, vN] 65) := (hf.same bb hbl hbn).trans h.bk.blk
  have hsz : (W.setCell ⟨bb, 3, none⟩ v').heap.size = W.heap.size := by simp [World.setCell]
  have kq : ∀ q, q ≠ bb → (W.setCell ⟨bb, 3, none⟩ v').heap[q]? = W.heap[q]? := fun q hq => Below.heap_setCell _ _ _ _ hq
  have keepq : ∀ q, q < w.heap.size → ¬ own vN q → q ≠ bb → (W.setCell ⟨bb, 3, none⟩ v').heap[q]? = w.heap[q]? := fun q h1 h2 h3 => (kq q h3).trans (hf.same q h1 h2)
  have rI : ∀ q, own vI q → (W.setCell ⟨bb, 3, none⟩ v').heap[q]? = w.heap[q]? := fun q hq => by
    obtain ⟨cur, hc⟩ := row_d h.bk.rI hq
    exact keepq q (World.ownsRow.lt h.bk.rI q hq).2 (own_ty h.bk.rN hc (by decide)) (fun e => own_ty h.bk.rI h.bk.blk (by decide) (e ▸ hq))
  have rE : ∀ q, own vE q → (W.setCell ⟨bb, 3, none⟩ v').heap[q]? = w.heap[q]? := fun q hq => by
    obtain ⟨cur, hc⟩ := row_d h.bk.rE hq
    exact keepq q (World.ownsRow.lt h.bk.rE q hq).2 (own_ty h.bk.rN hc (by decide)) (fun e => own_ty h.bk.rE h.bk.blk (by decide) (e ▸ hq))
  have hrow : (W.setCell ⟨bb, 3, none⟩ v').ownsRow B 111 5 v' (LN ++ [e]).length (flat5 (LN ++ [e])) := by
    rw [flat5_append, List.length_append]
    exact ownsRow_of_block hr (fun q hq => kq q (fun e => own_ty hr hbW (by decide) (e ▸ hq)))
  have hk : ∀ q, K q → (W.setCell ⟨bb, 3, none⟩ v').heap[q]? = w.heap[q]? := fun q hq => keepq q (h.apart q hq).1 (h.apart q hq).2.2.2.2 (h.apart q hq).2.1
  have a2 : ∀ q, K2 q → q < w.heap.size ∧ q ≠ bb ∧ ¬ own vI q ∧ ¬ own vE q ∧ ¬ own vN q := fun q hq => by
    obtain ⟨cur, hc⟩ := hk2 q hq
    exact ⟨(Array.getElem?_eq_some_iff.1 hc).1, fun e => absurd (ty_one (e ▸ hc) h.bk.blk) (by decide), own_ty h.bk.rI hc (by decide), own_ty h.bk.rE hc (by decide), own_ty h.bk.rN hc (by decide)⟩
  have hk2' : ∀ q, K2 q → (W.setCell ⟨bb, 3, none⟩ v').heap[q]? = w.heap[q]? := fun q hq => keepq q (a2 q hq).1 (a2 q hq).2.2.2.2 (a2 q hq).2.1
  have hset := setCell_row W bb 3 _ 65 v' hbW
  have fold : ∀ {P : World → Value → Int → Prop} {L : List Ent}, (∀ v m, P w v m → LiesIn v K → P (W.setCell ⟨bb, 3, none⟩ v') v m) → (∀ e, e ∈ L → P w e.l e.m ∧ P w e.a e.m ∧ P w e.b e.m ∧ P w e.c e.m) → (∀ e, e ∈ L → LiesIn e.l K ∧ LiesIn e.a K ∧ LiesIn e.b K ∧ LiesIn e.c K) → ∀ e, e ∈ L → P (W.setCell ⟨bb, 3, none⟩ v') e.l e.m ∧ P (W.setCell ⟨bb, 3, none⟩ v') e.a e.m ∧ P (W.setCell ⟨bb, 3, none⟩ v') e.b e.m ∧ P (W.setCell ⟨bb, 3, none⟩ v') e.c e.m := fun hp hf hl e he =>
    ⟨hp _ _ (hf e he).1 (hl e he).1, hp _ _ (hf e he).2.1 (hl e he).2.1, hp _ _ (hf e he).2.2.1 (hl e he).2.2.1, hp _ _ (hf e he).2.2.2 (hl e he).2.2.2⟩
  have gI := fold (P := FullI) (fun v m hp hl => hp.keep hl hk) h.bk.fI h.lI
  have gE := fold (P := FullE) (fun v m hp hl => hp.keep hl hk) h.bk.fE h.lE
  have gN := fold (P := FullN) (fun v m hp hl => hp.keep hl hk) h.bk.fN h.lN
  have lift : ∀ {L : List Ent}, (∀ e, e ∈ L → LiesIn e.l K ∧ LiesIn e.a K ∧ LiesIn e.b K ∧ LiesIn e.c K) → ∀ e, e ∈ L → LiesIn e.l (fun q => K q ∨ K2 q) ∧ LiesIn e.a (fun q => K q ∨ K2 q) ∧ LiesIn e.b (fun q => K q ∨ K2 q) ∧ LiesIn e.c (fun q => K q ∨ K2 q) := fun hl e he =>
    ⟨(hl e he).1.mono fun _ => .inl, (hl e he).2.1.mono fun _ => .inl, (hl e he).2.2.1.mono fun _ => .inl, (hl e he).2.2.2.mono fun _ => .inl⟩
  have gN' : ∀ x, x ∈ LN ++ [e] → FullN (W.setCell ⟨bb, 3, none⟩ v') x.l x.m ∧ FullN (W.setCell ⟨bb, 3, none⟩ v') x.a x.m ∧ FullN (W.setCell ⟨bb, 3, none⟩ v') x.b x.m ∧ FullN (W.setCell ⟨bb, 3, none⟩ v') x.c x.m := fun x hx => by
    rcases List.mem_append.1 hx with hx | hx
    · exact gN x hx
    · rw [List.mem_singleton] at hx
      subst hx
      exact ⟨hfull.1.keep hl.1 hk2', hfull.2.1.keep hl.2.1 hk2', hfull.2.2.1.keep hl.2.2.1 hk2', hfull.2.2.2.keep hl.2.2.2 hk2'⟩
  have lN' : ∀ x, x ∈ LN ++ [e] → LiesIn x.l (fun q => K q ∨ K2 q) ∧ LiesIn x.a (fun q => K q ∨ K2 q) ∧ LiesIn x.b (fun q => K q ∨ K2 q) ∧ LiesIn x.c (fun q => K q ∨ K2 q) := fun x hx => by
    rcases List.mem_append.1 hx with hx | hx
    · exact lift h.lN x hx
    · rw [List.mem_singleton] at hx
      subst hx
      exact ⟨hl.1.mono fun _ => .inr, hl.2.1.mono fun _ => .inr, hl.2.2.1.mono fun _ => .inr, hl.2.2.2.mono fun _ => .inr⟩
  have nv : ∀ q, q < w.heap.size → ¬ own vN q → ¬ own v' q := fun q hq hn hv => hn (hf.old q hq hv)
  refine ⟨⟨hset, ownsRow_of_block h.bk.rI rI, ownsRow_of_block h.bk.rE rE, hrow, gI, gE, gN'⟩, lift h.lI, lift h.lE, lN', fun q hq => ?_⟩
  rw [hsz]
  rcases hq with hq | hq
  · obtain ⟨x0, x1, x2, x3, x4⟩ := h.apart q hq
    exact ⟨Nat.lt_of_lt_of_le x0 hf.size, x1, x2, x3, nv q x0 x4⟩
  · obtain ⟨x0, x1, x2, x3, x4⟩ := a2 q hq
    exact ⟨Nat.lt_of_lt_of_le x0 hf.size, x1, x2, x3, nv q x0 x4⟩
end
theorem step_grown {ops : Array Oper} {o : Oper} {a : Act} {K : Act → World → Prop} {Q : Exit → Act → World → Prop} {E' : Prop} {w : World} {B t e size bytes d : Nat} (hd : o.dst = some d) (E : Elem t e size bytes) (hs0 : 0 < size) (hs1 : bytes ≤ 140) {v : Value} {n m : Nat} {xs news : List Value} (hgd : o.guard = none) (sv xv : Operand)
    (ho : o.op = .call { callee := .builtin .append, args := #[sv, xv], argTypes := #[t, t] }) {ad : Addr} {cap : Nat} (hs : a.eval sv = v) (hx : a.eval xv = .slice (some ad) m cap) (hrow : w.ownsRow B e size v n xs) (hl : news.length = m * size)
    (hc : ∀ j u, news[j]? = some u → w.cell? (ad.add j) = some u) (h1 : ∀ u ∈ news, u.oneCell' = true) (hm : 0 < m) (hn : n + m ≤ 1000000000000) (hB : B ≤ w.heap.size)
    (h : ∀ v' w', w'.ownsRow B e size v' (n + m) (xs ++ news) → Fr (own v) w w' (own v') → (∃ a c, v' = .slice a (n + m) c) → K ⟨a.tmps.setIfInBounds d v', a.defers⟩ w') : if Region.wanted o (yielded ops a.tmps) = true then Oper.wp Tryz.prog o a w K Q else E' := by
  obtain ⟨i, z, hi, hz, hsz, hby, hzc⟩ := E.i
  have hmx : n + m ≤ maxLen := by simp only [maxLen]; omega
  have hbb : (n + m) * bytes ≤ 140737488355328 := Nat.le_trans (Nat.mul_le_mul hn hs1) (by omega)
  refine step_append_lies _ hgd sv xv t ho B e i z size bytes E.u hi hz hsz hby hzc hs0 v n xs hs hrow ad m cap news hx hl hc h1 hm hmx hbb hB w.heap.size rfl ?_
  intro g cp w' h1 h2 h3 h4
  have hh := h _ w' h1 (grow_fr h2 h3) ⟨_, _, rfl⟩
  rw [hd]
  exact hh
end Go.Proofs.YtfmbebofllgmoaaGreatDoor
