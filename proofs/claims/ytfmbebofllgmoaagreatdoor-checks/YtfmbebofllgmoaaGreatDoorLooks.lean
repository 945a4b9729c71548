/-
  PROVED HERE: a book in which nothing was written looks as its owner wrote it.
-/
import Derived.Test.YtfmbebofllgmoaaGreatDoorProgcheck
namespace Go.Proofs.YtfmbebofllgmoaaGreatDoor
open Go.RowKit

set_option maxHeartbeats 1000000 in
/-- A book in which nothing has been written yet. -/
theorem looks_none (bk : Nat) (w : World) (c1 : w.cell? ⟨bk, 1, none⟩ = some (.slice none 0 0)) (c2 : w.cell? ⟨bk, 2, none⟩ = some (.slice none 0 0)) (c3 : w.cell? ⟨bk, 3, none⟩ = some (.slice none 0 0)) :
    Calls Tryz.prog 24 #[.pointer (some ⟨bk, 0, none⟩)] w fun e w' => e = .returned (.bool true) ∧ w' = w := by
  go_enter Tryz.func24, Tryz.ntmps24
  go_wp2
  go_loop [3] (fun i => i = .int .i64 0) (fun _ => 0)
  case atStart => rfl
  case round =>
    subst hrel
    go_wp2
    go_loop [5] (fun i => i = .int .i64 0) (fun _ => 0)
    case atStart => rfl
    case round =>
      subst hrel
      go_wp2
      go_loop [7] (fun i => i = .int .i64 0) (fun _ => 0)
      case atStart => rfl
      case round =>
        subst hrel
        go_wp2
        go_ret
        exact ⟨rfl, rfl⟩
end Go.Proofs.YtfmbebofllgmoaaGreatDoor
