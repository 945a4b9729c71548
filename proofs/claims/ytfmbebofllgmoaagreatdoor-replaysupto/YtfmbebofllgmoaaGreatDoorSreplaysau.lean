/-
  PROVED HERE: the reader's input: a kind that is none.
-/
import Derived.Test.YtfmbebofllgmoaaGreatDoorProg
import Derived.WalkKit
import Derived.WalkSpells
import Derived.WalkLawsBesides
import Derived.Deep.QuietTactic
import Derived.BigQuiet
import Derived.Deep.RegionHeld3
import Derived.Deep.AppendLies
import Derived.Laws.EntriesVeiled
import Derived.Deep.DrawnRows
import Derived.BigRegion
import Derived.Deep.LoopGhost
import Derived.Deep.RegionLaw
import Derived.Lib.SliceRun
import Derived.Laws.BytesString
import Derived.ArgAppend
import Derived.Deep.DeepCutAuto
import Derived.Test.YtfmbebofllgmoaaGreatDoorSreplaysam
namespace Go.Proofs.YtfmbebofllgmoaaGreatDoor
open Go.RowKit
attribute [local go_sem ↓] Go.wp_at_zero Go.wp_at_succ
set_option maxHeartbeats 2000000 in
set_option maxRecDepth 20000 in
theorem input_kind (b : ByteArray) (h0 : 0 < b.size) (hs : b.size ≤ 40) (w : World) (ns : List Nat) (hv : varsM (b.extract 1 b.size) = some ns) (hk : byteAt b 0 < 1 ∨ 5 < byteAt b 0) : Calls Tryz.prog 101 #[.string b] w (InPost b w) := by
  have hse : (b.extract 1 b.size).size = b.size - 1 := by simp [ByteArray.size_extract]
  have HM : Hid (inpM b = none) := hide (by unfold inpM; rw [hv]; exact inpN_unfit (.inr (.inr (.inr (.inr (.inr (by omega)))))))
  have HV := hide hv
  have HC := hide fun w => varints_any (b.extract 1 b.size) (by omega) w
  rw [byteAt_eq b 0 h0] at hk
  have HK := hide hk
  clear hv hk
  go_enter Tryz.func101, Tryz.ntmps101
  go_upto_region 4 with (go_at_call 122; (refine (unhide HC _).mono ?_; rintro e w1 p1; obtain ⟨f1, hl1, v1, rfl, o1⟩ := vs_some p1 (unhide HV); have F1 := hide f1; obtain ⟨a1, c1, rfl⟩ := ownI_slice o1; rw [zs_len]; obtain ⟨⟨r0, r1, r2, r3⟩, rz⟩ := resB f1; clear p1 f1 o1))
  go_cut [6] (fun u wc => ∃ z : Int, u = .int .i64 z ∧ (z < 1 ∨ 5 < z) ∧ wc = w1)
  case first =>
    go_wp2
    go_meet
    exact ⟨_, rfl, by have := unhide HK; have hlt := UInt8.toNat_lt (b[0]'h0); have hw : wrap64 ((b[0]'h0).toNat : Int) = (b[0]'h0).toNat := (by simp only [wrap64]; omega); omega, rfl⟩
  case rest =>
    obtain ⟨z, rfl, hz, rfl⟩ := hcut
    have h1 : ¬ z = 1 := by omega
    have h2 : ¬ z = 2 := by omega
    have h3 : ¬ z = 3 := by omega
    have h4 : ¬ z = 4 := by omega
    have h5 : ¬ z = 5 := by omega
    clear hz
    go_wp2
    exact bodyPost_ret (v := .tuple #[.agg #[.int .i64 0, .int .i64 0, .int .i64 0, .slice none 0 0], .bool false]) (by simp [results, Tryz.results101, go_sem, r0, r1, r2, r3]) rfl (in_none (unhide HM) (res_fr (unhide F1) _ _ _ _))
end Go.Proofs.YtfmbebofllgmoaaGreatDoor
