/-
  PROVED HERE: check.right answers as rerunref.right does, at all numbers, wherever the table lies in memory as the text lays it.
-/
import Derived.Test.YtfmbebofllgmoaaGreatDoorLeaf

namespace Go.Proofs.YtfmbebofllgmoaaGreatDoor
open Go.RowKit
/-- The table 'meanings' in memory. -/
def TabIn (w : World) : Prop := ∀ c : Int, 1 ≤ c → c < 12 → w.cell? ⟨0, c.toNat * 2, none⟩ = some (.int .i64 (tabA c)) ∧ w.cell? ⟨0, c.toNat * 2 + 1, none⟩ = some (.int .i64 (tabB c))

theorem bl2 {w : World} (o1 o2 : Obj) : Below w.heap.size w ((w.alloc o1).alloc o2) := ((Below.refl _ _).alloc (Nat.le_refl _) _).alloc (by simp) _
theorem bl3 {w : World} (o1 o2 o3 : Obj) : Below w.heap.size w (((w.alloc o1).alloc o2).alloc o3) := (bl2 o1 o2).alloc (by simp; omega) _
theorem bl4 {w : World} (o1 o2 o3 o4 : Obj) : Below w.heap.size w ((((w.alloc o1).alloc o2).alloc o3).alloc o4) := (bl3 o1 o2 o3).alloc (by simp; omega) _
theorem bl5 {w : World} (o1 o2 o3 o4 o5 : Obj) : Below w.heap.size w (((((w.alloc o1).alloc o2).alloc o3).alloc o4).alloc o5) := (bl4 o1 o2 o3 o4).alloc (by simp; omega) _

set_option maxHeartbeats 400000 in
theorem cright_any (c a b : Int) (v1 : Value) (a2 a3 : Option Addr) (nt c2 nf c3 : Nat) (w : World) (ht : TabIn w) :
    Calls Tryz.prog 51 #[.agg #[.int .i64 c, .int .i64 a, .int .i64 b], .agg #[v1, .slice a2 nt c2, .slice a3 nf c3]] w fun e w' => e = .returned (.bool (rightB c a b nt nf)) ∧ Below w.heap.size w w' := by
  by_cases hc : 1 ≤ c
  · by_cases hc' : c < 12
    · have hc0 : (0:Int) ≤ c := by omega
      obtain ⟨h1, h2⟩ := ht c hc hc'
      clear ht
      have hb : 0 < w.heap.size := World.block_lt_of_cell? w _ h1
      generalize hA : tabA c = tA at h1
      generalize hB : tabB c = tB at h2
      have e0 : rightB c a b nt nf = (fitsB a tA nt nf && fitsB b tB nt nf) := by
        simp [rightB, hc, hc', hA, hB]
      rw [e0]
      clear e0 hA hB
      cases hf : fitsB a tA nt nf
      all_goals
        go_enter Tryz.func51, Tryz.ntmps51
        go_wp2_with (go_at_call 82; refine (fits_any _ _ _ _ _ _ _ _ _ _).mono ?_; rintro e w' ⟨rfl, rfl⟩)
        go_ret
        exact ⟨ret_bool (by simp), by first | exact bl5 _ _ _ _ _ | exact bl4 _ _ _ _⟩
    · have e0 : rightB c a b nt nf = false := by simp [rightB, hc']
      rw [e0]
      go_enter Tryz.func51, Tryz.ntmps51
      go_wp2
      go_ret
      exact ⟨rfl, bl2 _ _⟩
  · have e0 : rightB c a b nt nf = false := by simp [rightB, hc]
    rw [e0]
    go_enter Tryz.func51, Tryz.ntmps51
    go_wp2
    go_ret
    exact ⟨rfl, bl2 _ _⟩
end Go.Proofs.YtfmbebofllgmoaaGreatDoor
