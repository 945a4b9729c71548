/-
  PROVED HERE: all steps of kind KRead of a script are as the document says.
-/
import Derived.Test.YtfmbebofllgmoaaGreatDoorMlaw
import Derived.Test.YtfmbebofllgmoaaGreatDoorMscript
namespace Go.Proofs.YtfmbebofllgmoaaGreatDoor
open Go.RowKit
attribute [local go_sem ↓] Go.wp_at_zero Go.wp_at_succ

/-- The Book between two steps. -/
def BookR (wr : World) (B k : Nat) : Prop := ∃ n vI vE vN LI LN K, BookK wr B B n vI vE vN LI [] LN K ∧ 2 * LI.length ≤ 1048576 * k ∧ LN.length ≤ k
theorem BookR.fr {w W : World} {B k : Nat} (h : BookR w B k) (hf : Fr (fun _ => False) w W (fun _ => False)) : BookR W B k := by
  obtain ⟨n, vI, vE, vN, LI, LN, K, h1, h2⟩ := h
  exact ⟨n, vI, vE, vN, LI, LN, K, h1.fr hf, h2⟩
theorem BookR.more {w : World} {B k : Nat} (h : BookR w B k) : BookR w B (k + 1) := by
  obtain ⟨n, vI, vE, vN, LI, LN, K, h1, h2, h3⟩ := h
  exact ⟨n, vI, vE, vN, LI, LN, K, h1, by omega, by omega⟩
theorem bookR_new (w : World) : BookR (w.alloc (.cells #[.int .i64 0, .slice none 0 0, .slice none 0 0, .slice none 0 0] 65)) w.heap.size 0 :=
  ⟨0, _, _, _, [], [], fun _ => False, ⟨⟨heap_alloc_new _ _, World.ownsRow_nil _ _ _ _, World.ownsRow_nil _ _ _ _, World.ownsRow_nil _ _ _ _, fun _ h => absurd h (by simp), fun _ h => absurd h (by simp), fun _ h => absurd h (by simp)⟩, fun _ h => absurd h (by simp), fun _ h => absurd h (by simp), fun _ h => absurd h (by simp), fun _ h => h.elim⟩, by simp, by simp⟩
/-- A step that reads, and the look behind it. -/
theorem BookR.plays {W : World} {B k : Nat} (h : BookR W B k) (hk : k ≤ 1048576) (hBw : B ≤ W.heap.size) (y1 y2 y3 y4 y5 y6 y7 y9 : Value) (lg : ByteArray) (hlg : lg.size ≤ 1048576) :
    Calls Tryz.prog 23 #[.pointer (some ⟨B, 0, none⟩), .agg #[.int .i64 3, y1, y2, y3, y4, y5, y6, y7, .string lg, y9]] W fun e w' => e = .returned (.bool true) ∧ Below B W w' ∧ BookR w' B (k + 1) := by
  obtain ⟨n, vI, vE, vN, LI, LN, K, h1, h2, h3⟩ := h
  refine (plays_read h1 (Nat.le_refl _) hBw y1 y2 y3 y4 y5 y6 y7 y9 lg (by omega) (by omega) (by omega)).mono ?_
  rintro e w' ⟨rfl, j, hj, n', vI', vN', LI', LN', K', hb, e1, e2, hbl⟩
  exact ⟨rfl, hbl, n', vI', vE, vN', LI', LN', K', hb, by omega, by omega⟩
theorem BookR.looks {W : World} {B k : Nat} (h : BookR W B k) (hk : k ≤ 1048577) : Calls Tryz.prog 24 #[.pointer (some ⟨B, 0, none⟩)] W fun e w' => e = .returned (.bool true) ∧ Fr (fun _ => False) W w' (fun _ => False) := by
  obtain ⟨n, vI, vE, vN, LI, LN, K, h1, h2, h3⟩ := h
  exact looks_any h1.bk (by omega) (by simp) (by omega)

set_option maxHeartbeats 1000000 in
theorem upTo_read {N : Nat} (hN : N ≤ 1048576) (v : Value) (n : Nat) (w : World) (hv : ScriptInL N w v n) :
    Calls Tryz.prog 12 #[v, .int .i64 3, .int .i64 3] w fun e w' => e = .returned (.bool true) ∧ Below w.heap.size w w' := by
  obtain ⟨a, c, rfl, hn, hf⟩ := hv
  have HF := hide hf
  have HST := hide (bookR_new w)
  clear hf
  go_enter Tryz.func12, Tryz.ntmps12
  go_wp2
  go_loopw [8] (fun i wr => ∃ k : Nat, k ≤ n ∧ i = .int .i64 k ∧ Below w.heap.size w wr ∧ w.heap.size < wr.heap.size ∧ Hid (BookR wr w.heap.size k)) (fun i _ => n - (intOf i).toNat)
  case atStart => exact ⟨0, Nat.zero_le _, rfl, (Below.refl _ _).alloc (Nat.le_refl _) _, by simp, HST⟩
  case round =>
    obtain ⟨k, hk, rfl, hb, hsz, hbk⟩ := hrel
    by_cases hlt : k < n
    · rcases unhide HF with hz | ⟨b, off, rfl, hf⟩
      · omega
      obtain ⟨kd, v1, v2, v3, p4, p5, p6, p7, n4, c4, n5, c5, n6, c6, n7, c7, lg, fu, ns, nt, nf, s, tl, fl, t, f, ⟨d0, d1, d2, d3, d4, d5, d6, d7, d8, d9⟩, h1, h2, h3, hlg⟩ := hf k hlt
      have hlb : b < w.heap.size := World.block_lt_of_cell? _ _ d0
      rw [← bcel hb b _ hlb] at d0 d1 d2 d3 d4 d5 d6 d7 d8 d9
      have hlb' : b < wr.heap.size := by have := hb.size; omega
      obtain ⟨a1, c1, rfl, _, _⟩ := h1
      obtain ⟨a2, c2, rfl, _, _⟩ := h2
      obtain ⟨a3, c3, rfl, _, _⟩ := h3
      clear hf
      obtain ⟨W1, hW⟩ : ∃ W1, W1 = wr.alloc (.cells #[.int .i64 kd, .slice a1 ns c1, .slice a2 nt c2, .slice a3 nf c3, .slice p4 n4 c4, .slice p5 n5 c5, .slice p6 n6 c6, .slice p7 n7 c7, .string lg, .int .i64 fu] 67) := ⟨_, rfl⟩
      have fr1 : Fr (fun _ => False) wr W1 (fun _ => False) := by subst hW; exact (Fr.refl _ _).alloc _
      have hb1 : Below w.heap.size w W1 := hb.trans (fr1.below (fun k hk => hk.elim) (Nat.le_of_lt hsz))
      have hsw : w.heap.size < W1.heap.size := Nat.lt_of_lt_of_le hsz fr1.size
      have hbk1 := (unhide hbk).fr fr1
      by_cases hk1 : kd = 3
      · subst hk1
        have HP := hide (hbk1.plays (by omega) (Nat.le_of_lt hsw) (.slice a1 ns c1) (.slice a2 nt c2) (.slice a3 nf c3) (.slice p4 n4 c4) (.slice p5 n5 c5) (.slice p6 n6 c6) (.slice p7 n7 c7) (.int .i64 fu) lg (by omega))
        have HW := hide hW
        have HB1 := hide hb1
        clear hW hbk hbk1 fr1 hb1
        go_wp2_with fail
        rw [← unhide HW]
        refine (unhide HP).mono ?_
        rintro e w2 ⟨rfl, hb2, hbk2⟩
        have HL := hide (hbk2.looks (by omega))
        have HBK := hide hbk2
        have HB2 := hide ((unhide HB1).trans hb2)
        have hs2 : w.heap.size < w2.heap.size := Nat.lt_of_lt_of_le hsw hb2.size
        clear HP HW hb2 hbk2 HB1
        go_wp2_with fail
        refine (unhide HL).mono ?_
        rintro e w3 ⟨rfl, f3⟩
        have HBK3 := hide ((unhide HBK).fr f3)
        have hb3 : Below w.heap.size w w3 := (unhide HB2).trans (f3.below (fun k hk => hk.elim) (Nat.le_of_lt hs2))
        have hs3 : w.heap.size < w3.heap.size := Nat.lt_of_lt_of_le hs2 f3.size
        clear HL f3 HBK HB2
        go_wp2
        go_roundw
        case rel => exact ⟨k + 1, by omega, by go_num, hb3, hs3, HBK3⟩
        case measure => simp [intOf]; omega
      · have HM := hide hbk1.more
        have HW := hide hW
        clear hW hbk hbk1 fr1
        by_cases hk2 : 3 ≤ kd
        · have hk3 : ¬ kd ≤ 3 := by omega
          go_wp2
          rw [← unhide HW]
          go_roundw
          case rel => exact ⟨k + 1, by omega, by go_num, hb1, hsw, HM⟩
          case measure => simp [intOf]; omega
        · go_wp2
          rw [← unhide HW]
          go_roundw
          case rel => exact ⟨k + 1, by omega, by go_num, hb1, hsw, HM⟩
          case measure => simp [intOf]; omega
    · go_wp2
      go_ret
      exact ⟨rfl, hb⟩

theorem reads_any {N : Nat} (hN : N ≤ 1048576) (v : Value) (n : Nat) (w : World) (hv : ScriptInL N w v n) :
    Calls Tryz.prog 5 #[v] w fun e w' => e = .returned (.bool true) ∧ Below w.heap.size w w' := by
  have HU := hide (upTo_read hN v n w hv)
  clear hv
  go_enter Tryz.func5, Tryz.ntmps5
  go_wp2_with fail
  refine (unhide HU).mono ?_
  rintro e w1 ⟨rfl, hb⟩
  go_wp2
  go_ret
  exact ⟨rfl, hb⟩
end Go.Proofs.YtfmbebofllgmoaaGreatDoor
