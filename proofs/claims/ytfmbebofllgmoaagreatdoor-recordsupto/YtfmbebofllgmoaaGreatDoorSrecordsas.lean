/-
  PROVED HERE: bodies and sums: no body begins another one; one byte turned makes another sum. logs, read record by record: whole ones, their first bytes, with one byte turned.
-/
import Derived.Test.YtfmbebofllgmoaaGreatDoorProg
import Derived.WalkKit
import Derived.WalkSpells
import Derived.WalkLawsBesides
import Derived.Deep.QuietTactic
import Derived.BigQuiet
import Derived.Deep.RegionHeld3
import Derived.Deep.AppendLies
import Derived.Laws.EntriesVeiled
import Derived.Deep.DrawnRows
import Derived.BigRegion
import Derived.Deep.LoopGhost
import Derived.Deep.RegionLaw
import Derived.Lib.SliceRun
import Derived.Laws.BytesString
import Derived.ArgAppend
import Derived.Laws.BitsAllLaws
import Derived.Test.YtfmbebofllgmoaaGreatDoorSrecordsam
namespace Go.Proofs.YtfmbebofllgmoaaGreatDoor
open Go.RowKit

/-- The body of an input, as numbers. -/
def bodyL (x : Inp) : List Nat := x.1 :: vbs (nums x)
theorem vb_le : ∀ (j n : Nat), n < 128 ^ (j + 1) → (vb n).length ≤ j + 1
  | 0, n, h => by rw [vb_small n (by omega)]; simp
  | j + 1, n, h => by
    by_cases hn : n < 128
    · rw [vb_small n hn]; simp
    · rw [vb_great n hn, List.length_cons]
      have h1 : n / 128 < 128 ^ (j + 1) := by rw [Nat.div_lt_iff_lt_mul (by omega)]; rwa [Nat.pow_succ] at h
      have := vb_le j (n / 128) h1
      omega
theorem risL_len : ∀ (fs : List Nat) (last : Int), -1 ≤ last → last < 8 → risL last (zs fs) = true → (fs.length : Int) + last ≤ 7 ∧ ∀ f, f ∈ fs → f < 8
  | [], last, _, h8, _ => ⟨by simp; omega, fun _ h => absurd h (by simp)⟩
  | f :: t, last, h1, h8, h => by
    have e : zs (f :: t) = (f : Int) :: zs t := rfl
    rw [e] at h
    simp only [risL] at h
    by_cases hc : (f : Int) ≤ last ∨ 8 ≤ (f : Int)
    · rw [if_pos hc] at h; cases h
    · rw [if_neg hc] at h
      obtain ⟨g1, g2⟩ := risL_len t f (by omega) (by omega) h
      refine ⟨by simp only [List.length_cons]; omega, ?_⟩
      intro x hx
      rcases List.mem_cons.1 hx with rfl | hx
      · omega
      · exact g2 x hx
theorem vbs_small : ∀ (fs : List Nat), (∀ f, f ∈ fs → f < 128) → vbs fs = fs
  | [], _ => rfl
  | f :: t, h => by
    rw [vbs_cons, vb_small f (h f (List.mem_cons_self ..)), vbs_small t (fun x hx => h x (List.mem_cons_of_mem _ hx))]; rfl
theorem Fit.nums_lt {x : Inp} (h : Fit x) : ∀ n, n ∈ nums x → n < 128 ^ 6 := by
  obtain ⟨k, o, n, fs⟩ := x
  rcases h with ⟨e, h1, h2, h3⟩ | ⟨e, h1, h2, h3⟩ | ⟨e, h1, h2, h3, h4⟩ | ⟨e, h1, h2, h3, h4⟩ | ⟨e, h1, h2, h3, h4⟩ <;> simp only at e h1 h2 h3 <;> subst e
  · intro m hm; simp [nums] at hm; omega
  · obtain ⟨g1, g2⟩ := risL_len fs (-1) (by omega) (by omega) h3
    intro m hm
    simp [nums] at hm
    rcases hm with rfl | hm
    · omega
    · have := g2 m hm; omega
  · intro m hm; simp [nums] at hm; omega
  · intro m hm; simp [nums] at hm; omega
  · intro m hm; simp [nums] at hm; omega
theorem bodyL_len {x : Inp} (h : Fit x) : 2 ≤ (bodyL x).length ∧ (bodyL x).length ≤ 10 := by
  obtain ⟨k, o, n, fs⟩ := x
  rcases h with ⟨e, h1, h2, h3⟩ | ⟨e, h1, h2, h3⟩ | ⟨e, h1, h2, h3, h4⟩ | ⟨e, h1, h2, h3, h4⟩ | ⟨e, h1, h2, h3, h4⟩ <;> simp only at e h1 h2 h3 <;> subst e
  · have := vb_le 5 n (by omega)
    have := vb_pos n
    simp only [bodyL, nums, vbs, List.length_cons]
    simp
    omega
  · obtain ⟨g1, g2⟩ := risL_len fs (-1) (by omega) (by omega) h3
    have e : bodyL (2, o, n, fs) = 2 :: fs.length :: fs := by
      have : nums (2, o, n, fs) = fs.length :: fs := rfl
      unfold bodyL
      rw [this, vbs_cons, vb_small _ (by omega), vbs_small fs (fun f hf => by have := g2 f hf; omega)]
      rfl
    rw [e]
    simp only [List.length_cons]
    omega
  · have e : bodyL (3, o, n, fs) = 3 :: (vb o ++ (vb n ++ [])) := rfl
    rw [e, vb_small o (by omega), vb_small n (by omega)]
    simp
  · have e : bodyL (4, o, n, fs) = 4 :: (vb o ++ (vb n ++ [])) := rfl
    have := vb_le 2 n (by omega)
    have := vb_le 2 o (by omega)
    have := vb_pos n
    rw [e, List.length_cons, List.length_append, List.append_nil]
    omega
  · have e : bodyL (5, o, n, fs) = 5 :: (vb n ++ []) := rfl
    rw [e, vb_small n (by omega)]
    simp

/-! ### The sum -/
def smB (l : List Nat) : ByteArray := ⟨(l.map UInt8.ofNat).toArray⟩
theorem smB_bs (b : ByteArray) : smB (bs b) = b := by
  obtain ⟨⟨l⟩⟩ := b
  simp only [smB, bs, List.map_map]
  have : (UInt8.ofNat ∘ UInt8.toNat) = id := by funext x; simp
  rw [this, List.map_id]
/-- The four bytes of the sum, as numbers. -/
def sm (l : List Nat) : List Nat := bs (sumS (smB l))
theorem sm_bs (b : ByteArray) : sm (bs b) = bs (sumS b) := by unfold sm; rw [smB_bs]
end Go.Proofs.YtfmbebofllgmoaaGreatDoor
namespace Go.Proofs.YtfmbebofllgmoaaGreatDoor
open Go.RowKit

/-- The record of an input, as numbers. -/
def frL (x : Inp) : List Nat := (bodyL x).length :: (bodyL x ++ sm (bodyL x))
/-- The records of inputs, one behind the other. -/
def frs (xs : List Inp) : List Nat := xs.flatMap frL
def hd3 : List Nat := [82, 82, 49]
/-- The log of inputs and an end. -/
def logL (xs : List Inp) (e : Nat) : List Nat := hd3 ++ (frs xs ++ frL (5, 0, e, []))
theorem fit_end (e : Nat) (h1 : 1 ≤ e) (h5 : e ≤ 5) : Fit (5, 0, e, []) := .inr (.inr (.inr (.inr ⟨rfl, rfl, h1, h5, rfl⟩)))
end Go.Proofs.YtfmbebofllgmoaaGreatDoor
