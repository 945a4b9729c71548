/-
  PROVED HERE: the small functions of the log's reader: within, behind, length, varint. the reader's varint. the reader's row of varints. the reader's look at a batch's files. the reader's input: what a body tells. the reader's input: what is none. the reader's input: a pick and a lot whose Of is none. the reader's input: a kind that is none. the reader's input: a pick and a lot whose Of is one. the reader's input: a batch. the bytes of varints and of inputs: written and read. bodies and sums: no body begins another one; one byte turned makes another sum. logs, read record by record: whole ones, their first bytes, with one byte turned. the reader's beginning: do the bytes begin as a log must?
-/
import Derived.Test.YtfmbebofllgmoaaGreatDoorMlogs
import Derived.WalkSpells
import Derived.Deep.RegionHeld3
import Derived.Deep.DeepCutAuto
import Derived.RangeFuncOwn
import Derived.Laws.BitsAllLaws
namespace Go.Proofs.YtfmbebofllgmoaaGreatDoor
open Go.RowKit
attribute [local go_sem ↓] Go.wp_at_zero Go.wp_at_succ

theorem within_any (n a b : Int) (w : World) : Calls Tryz.prog 124 #[.int .i64 n, .int .i64 a, .int .i64 b] w fun e w' => e = .returned (.bool (decide (a ≤ n) && decide (n ≤ b))) ∧ w' = w := by
  by_cases h : a ≤ n
  · go_enter Tryz.func124, Tryz.ntmps124
    go_wp2
    go_ret
    exact ⟨by simp [h], rfl⟩
  · go_enter Tryz.func124, Tryz.ntmps124
    go_wp2
    go_ret
    exact ⟨ret_bool (by have : decide (a ≤ n) = false := by simpa using h
                        rw [this]; rfl), rfl⟩

theorem str_pos {s : ByteArray} (h : 0 < s.size) : s.toList.isEmpty = false := by
  have : s.toList.length = s.size := by rw [Go.ByteArray.toList_eq]; rfl
  cases hl : s.toList with
  | nil => rw [hl] at this; simp at this; omega
  | cons a t => rfl
theorem str_zero {s : ByteArray} (h : ¬ 0 < s.size) : s = ⟨#[]⟩ := ByteArray.ext (Array.eq_empty_of_size_eq_zero (by have : s.data.size = s.size := rfl
                                                                                                                     omega))
theorem behind_any (s : ByteArray) (w : World) : Calls Tryz.prog 60 #[.string s] w fun e w' => e = .returned (.int .i64 (if 0 < s.size then 5 else 1)) ∧ w' = w := by
  by_cases h : 0 < s.size
  · have hb := str_pos h
    go_enter Tryz.func60, Tryz.ntmps60
    go_wp2
    go_ret
    exact ⟨by simp, rfl⟩
  · cases str_zero h
    go_enter Tryz.func60, Tryz.ntmps60
    go_wp2
    go_ret
    exact ⟨rfl, rfl⟩

/-- The byte at a place, 0 behind the end. -/
def byteAt (s : ByteArray) (i : Nat) : Nat := (s.data.toList.getD i 0).toNat
theorem byteAt_lt (s : ByteArray) (i : Nat) : byteAt s i < 256 := UInt8.toNat_lt _
/-- How many bytes a record's body has, and why there is none: program's 'length'. -/
def lenM (s : ByteArray) : Int × Int := if s.size = 0 ∨ (128 ≤ byteAt s 0 ∧ s.size = 1) then (0, 2) else if byteAt s 0 < 1 ∨ 40 < byteAt s 0 then (0, 4) else (byteAt s 0, 0)
theorem index_at (s : ByteArray) (k : Nat) (h : k < s.size) (w : World) : (Instr.index 9 (.string s) (.int .i64 k)).run Tryz.prog w = .ok (.int .u8 (byteAt s k)) w := by
  rw [run_index_string (P := Tryz.prog) w 9 s .i64 k (by kernel_rfl), dif_pos ⟨by omega, by omega⟩]
  obtain ⟨⟨l⟩⟩ := s
  have hl : k < l.length := h
  have e : (ByteArray.mk ⟨l⟩)[k]'hl = l.getD k 0 := by
    simp only [List.getD, List.getElem?_eq_getElem hl, Option.getD_some]
    rfl
  simp only [Int.toNat_natCast, e, byteAt]

theorem byteAt_eq (s : ByteArray) (k : Nat) (h : k < s.size) : byteAt s k = (s[k]'h).toNat := by
  obtain ⟨⟨l⟩⟩ := s
  have hl : k < l.length := h
  have e : (ByteArray.mk ⟨l⟩)[k]'hl = l.getD k 0 := by
    simp only [List.getD, List.getElem?_eq_getElem hl, Option.getD_some]
    rfl
  simp only [e, byteAt]

set_option maxRecDepth 20000 in
theorem length_any (s : ByteArray) (hs : s.size ≤ 1000000000) (w : World) : Calls Tryz.prog 99 #[.string s] w fun e w' => e = .returned (.tuple #[.int .i64 (lenM s).1, .int .i64 (lenM s).2]) ∧ w' = w := by
  by_cases h : 0 < s.size
  · have e0 := byteAt_eq s 0 h
    have hb := str_pos h
    have hlt := byteAt_lt s 0
    have hn : ¬ s.size = 0 := by omega
    have hl : lenM s = if (128 ≤ byteAt s 0 ∧ s.size = 1) then (0, 2) else if byteAt s 0 < 1 ∨ 40 < byteAt s 0 then (0, 4) else ((byteAt s 0 : Int), 0) := by simp only [lenM, hn, false_or]
    rw [e0] at hlt hl
    clear e0
    by_cases h1 : 128 ≤ (s[0]'h).toNat ∧ s.size = 1
    · rw [if_pos h1] at hl
      rw [hl]
      obtain ⟨h1, h2⟩ := h1
      have h3 : (s.size : Int) = 1 := by omega
      have h1' : (128 : Int) ≤ ((s[0]'h).toNat : Int) := by omega
      go_enter Tryz.func99, Tryz.ntmps99
      go_wp2
      refine bodyPost_ret (v := .tuple #[.int .i64 0, .int .i64 2]) (by simp [results, Tryz.results99, go_sem]) rfl ?_
      exact ⟨rfl, rfl⟩
    · rw [if_neg h1] at hl
      by_cases h2 : (s[0]'h).toNat < 1 ∨ 40 < (s[0]'h).toNat
      · rw [if_pos h2] at hl
        rw [hl]
        rcases h2 with h2 | h2
        · have h3 : ((s[0]'h).toNat : Int) < 1 := by omega
          go_enter Tryz.func99, Tryz.ntmps99
          go_wp2
          refine bodyPost_ret (v := .tuple #[.int .i64 0, .int .i64 4]) (by simp [results, Tryz.results99, go_sem]) rfl ?_
          exact ⟨rfl, rfl⟩
        · by_cases h4 : 128 ≤ (s[0]'h).toNat
          · have h5 : 1 < s.size := by omega
            have h3 : (128 : Int) ≤ ((s[0]'h).toNat : Int) := by omega
            have h6 : (40 : Int) < ((s[0]'h).toNat : Int) := by omega
            have h7 : ¬ ((s[0]'h).toNat : Int) < 1 := by omega
            clear h1 h2 h4 hl hn
            go_enter Tryz.func99, Tryz.ntmps99
            go_wp2
            refine bodyPost_ret (v := .tuple #[.int .i64 0, .int .i64 4]) (by simp [results, Tryz.results99, go_sem]) rfl ?_
            exact ⟨rfl, rfl⟩
          · have h3 : ((s[0]'h).toNat : Int) < 128 := by omega
            have h5 : (40 : Int) < ((s[0]'h).toNat : Int) := by omega
            go_enter Tryz.func99, Tryz.ntmps99
            go_wp2
            refine bodyPost_ret (v := .tuple #[.int .i64 0, .int .i64 4]) (by simp [results, Tryz.results99, go_sem]) rfl ?_
            exact ⟨rfl, rfl⟩
      · rw [if_neg h2] at hl
        rw [hl]
        have h3 : ((s[0]'h).toNat : Int) ≤ 40 := by omega
        have h4 : (1 : Int) ≤ ((s[0]'h).toNat : Int) := by omega
        go_enter Tryz.func99, Tryz.ntmps99
        go_wp2
        refine bodyPost_ret (v := .tuple #[.int .i64 ((s[0]'h).toNat : Int), .int .i64 0]) (by simp [results, Tryz.results99, go_sem]) rfl ?_
        exact ⟨rfl, rfl⟩
  · cases str_zero h
    go_enter Tryz.func99, Tryz.ntmps99
    go_wp2
    refine bodyPost_ret (v := .tuple #[.int .i64 0, .int .i64 2]) (by simp [results, Tryz.results99, go_sem]) rfl ?_
    exact ⟨rfl, rfl⟩
end Go.Proofs.YtfmbebofllgmoaaGreatDoor
namespace Go.Proofs.YtfmbebofllgmoaaGreatDoor
open Go.RowKit
attribute [local go_sem ↓] Go.wp_at_zero Go.wp_at_succ

/-- A varint read: places left, place, number so far, bytes left. -/
def vGo : Nat → Nat → Nat → List Nat → Nat × Nat
  | 0, _, _, _ => (0, 0)
  | _ + 1, _, _, [] => (0, 0)
  | f + 1, k, n, x :: t => if 128 ≤ x then vGo f (k + 1) (n + x % 128 * 128 ^ k) t else if x = 0 ∧ 0 < k then (0, 0) else (n + x % 128 * 128 ^ k, k + 1)
def bs (s : ByteArray) : List Nat := s.data.toList.map UInt8.toNat
def varM (s : ByteArray) : Nat × Nat := vGo 6 0 0 (bs s)
theorem bs_drop (s : ByteArray) (k : Nat) (h : k < s.size) : (bs s).drop k = byteAt s k :: (bs s).drop (k + 1) := by
  have hl : k < (bs s).length := by simpa [bs] using h
  have hl' : k < s.data.toList.length := by simpa using h
  rw [List.drop_eq_getElem_cons hl]
  congr 1
  simp [bs, byteAt, List.getD, List.getElem?_eq_getElem hl']
theorem bs_end (s : ByteArray) (k : Nat) (h : s.size ≤ k) : (bs s).drop k = [] := List.drop_eq_nil_of_le (by simpa [bs] using h)
def VRel (s : ByteArray) (w : World) (h i : Value) (wr : World) : Prop :=
  wr = w ∧ ∃ f k n : Nat, k ≤ s.size ∧ f + k = 6 ∧ h = .int .i64 n ∧ i = .int .i64 k ∧ n < 128 ^ k ∧ vGo f k n ((bs s).drop k) = varM s

theorem vGo_more (f k n x : Nat) (t : List Nat) (h : 128 ≤ x) : vGo (f + 1) k n (x :: t) = vGo f (k + 1) (n + x % 128 * 128 ^ k) t := by
  simp only [vGo]; rw [if_pos h]
theorem vGo_zero (f k n : Nat) (t : List Nat) (h : 0 < k) : vGo (f + 1) k n (0 :: t) = (0, 0) := by
  simp only [vGo]; rw [if_neg (by decide), if_pos (by simpa using h)]
theorem vGo_done (f k n x : Nat) (t : List Nat) (h : x < 128) (h0 : x ≠ 0 ∨ k = 0) : vGo (f + 1) k n (x :: t) = (n + x * 128 ^ k, k + 1) := by
  simp only [vGo]; rw [if_neg (by omega), if_neg (by omega), Nat.mod_eq_of_lt h]
theorem vGo_nil (f k n : Nat) : vGo f k n [] = (0, 0) := by cases f <;> rfl

set_option maxHeartbeats 4000000 in
set_option maxRecDepth 20000 in
theorem varint_any' (s : ByteArray) (hs : s.size ≤ 1000000000) (w : World) : Calls Tryz.prog 138 #[.string s] w fun e w' => e = .returned (.tuple #[.int .i64 (varM s).1, .int .i64 (varM s).2]) ∧ w' = w := by
  by_cases h6 : (6 : Int) < s.size
  all_goals
    go_enter Tryz.func138, Tryz.ntmps138
    go_wp2
    go_loopw [2, 8] (fun h i wr => VRel s w h i wr) (fun _ i _ => 6 - (intOf i).toNat)
    case atStart => exact ⟨rfl, 6, 0, 0, Nat.zero_le _, rfl, rfl, rfl, by decide, rfl⟩
    case round =>
      obtain ⟨rfl, f, k, n, hk, hk6, rfl, rfl, hn, hv⟩ := hrel
      by_cases hlt : k < s.size ∧ k < 6
      · obtain ⟨hlt, hlt6⟩ := hlt
        have e0 := byteAt_eq s k hlt
        have hb := byteAt_lt s k
        rw [bs_drop s k hlt, e0] at hv
        rw [e0] at hb
        clear e0
        obtain ⟨f, rfl⟩ : ∃ g, f = g + 1 := ⟨f - 1, by omega⟩
        by_cases hx : (128 : Int) ≤ ((s[k]'hlt).toNat : Int)
        · rw [vGo_more _ _ _ _ _ (by omega)] at hv
          have HV := hide hv
          clear hv
          rcases (by omega : k = 0 ∨ k = 1 ∨ k = 2 ∨ k = 3 ∨ k = 4 ∨ k = 5) with rfl | rfl | rfl | rfl | rfl | rfl
          all_goals
            go_wp2
            go_roundw
            case rel =>
              refine ⟨rfl, _, _, _, ?_, ?_, ?_, ?_, ?_, unhide HV⟩
              · omega
              · omega
              · exact congrArg (Value.int .i64) (by omega)
              · rfl
              · omega
            case measure => simp [intOf]
        · by_cases h0 : ((s[k]'hlt).toNat : Int) = 0 ∧ 0 < k
          · obtain ⟨h0, hk0⟩ := h0
            rw [(by omega : (s[k]'hlt).toNat = 0), vGo_zero _ _ _ _ hk0] at hv
            have HV := hide hv
            clear hv
            rcases (by omega : k = 1 ∨ k = 2 ∨ k = 3 ∨ k = 4 ∨ k = 5) with rfl | rfl | rfl | rfl | rfl
            all_goals
              go_wp2
              refine bodyPost_ret (v := .tuple #[.int .i64 0, .int .i64 0]) (by simp [results, Tryz.results138, go_sem]) rfl ?_
              exact ⟨by rw [← unhide HV]; rfl, rfl⟩
          · rw [vGo_done _ _ _ _ _ (by omega) (by omega)] at hv
            have HV := hide hv
            clear hv
            by_cases hz : k = 0
            · subst hz
              clear h0
              go_wp2
              all_goals
                refine bodyPost_ret (v := .tuple #[.int .i64 (varM s).1, .int .i64 (varM s).2]) ?_ rfl ⟨rfl, rfl⟩
                rw [← unhide HV]
                simp [results, Tryz.results138, go_sem]
                omega
            · have h1 : ¬ ((s[k]'hlt).toNat : Int) = 0 := by omega
              clear h0
              rcases (by omega : k = 1 ∨ k = 2 ∨ k = 3 ∨ k = 4 ∨ k = 5) with rfl | rfl | rfl | rfl | rfl
              all_goals
                go_wp2
                refine bodyPost_ret (v := .tuple #[.int .i64 (varM s).1, .int .i64 (varM s).2]) ?_ rfl ⟨rfl, rfl⟩
                rw [← unhide HV]
                simp [results, Tryz.results138, go_sem]
                omega
      · have e : vGo f k n ((bs s).drop k) = (0, 0) := by
          by_cases h : k < s.size
          · rw [(by omega : f = 0)]; rfl
          · rw [bs_end s k (by omega), vGo_nil]
        rw [e] at hv
        have HV := hide hv
        clear hv e
        go_wp2
        refine bodyPost_ret (v := .tuple #[.int .i64 0, .int .i64 0]) (by simp [results, Tryz.results138, go_sem]) rfl ?_
        exact ⟨by rw [← unhide HV]; rfl, rfl⟩
end Go.Proofs.YtfmbebofllgmoaaGreatDoor
namespace Go.Proofs.YtfmbebofllgmoaaGreatDoor
open Go.RowKit
attribute [local go_sem ↓] Go.wp_at_zero Go.wp_at_succ

theorem vGo_le : ∀ (f k n : Nat) (l : List Nat), (vGo f k n l).2 ≤ k + l.length
  | 0, _, _, _ => by simp [vGo]
  | _ + 1, _, _, [] => by simp [vGo]
  | f + 1, k, n, x :: t => by
    simp only [vGo, List.length_cons]
    split
    · exact Nat.le_trans (vGo_le f (k + 1) _ t) (by omega)
    · split
      · exact Nat.zero_le _
      · simp only []; omega
/-- The numbers of a row of varints (at most so many), or none. -/
def varsL : Nat → List Nat → Option (List Nat)
  | 0, l => if l = [] then some [] else none
  | f + 1, l => if l = [] then some [] else if (vGo 6 0 0 l).2 = 0 then none else (varsL f (l.drop (vGo 6 0 0 l).2)).map fun r => (vGo 6 0 0 l).1 :: r
def varsM (s : ByteArray) : Option (List Nat) := varsL s.size (bs s)
theorem bs_extract (s : ByteArray) (k : Nat) : bs (s.extract k s.size) = (bs s).drop k := by
  simp [bs, ByteArray.data_extract, List.map_drop]
  apply List.take_of_length_le
  simp
theorem bs_nil {s : ByteArray} : bs s = [] ↔ ¬ 0 < s.size := by
  have : (bs s).length = s.size := by simp [bs]
  constructor
  · intro h; rw [h] at this; simp at this; omega
  · intro h; exact List.eq_nil_of_length_eq_zero (by omega)
theorem bs_len (s : ByteArray) : (bs s).length = s.size := by simp [bs]
theorem vGo_pos (l : List Nat) : l = [] → (vGo 6 0 0 l).2 = 0 := by rintro rfl; rfl
def zs (l : List Nat) : List Int := l.map Int.ofNat
def strSz : Value → Nat
  | .string s => s.size
  | _ => 0
def VsRel (s0 : ByteArray) (w : World) (s v : Value) (wr : World) : Prop :=
  ∃ (s' : ByteArray) (ns : List Nat) (f : Nat), s = .string s' ∧ s'.size ≤ f ∧ s'.size + ns.length ≤ s0.size ∧ OwnI wr w.heap.size v (zs ns) ∧ (varsL f (bs s')).map (ns ++ ·) = varsM s0 ∧ Fr (fun _ => False) w wr (fun _ => False)

def VsPost (s : ByteArray) (w : World) (e : Ending) (w' : World) : Prop :=
  Fr (fun _ => False) w w' (fun _ => False) ∧ match varsM s with
  | none => e = .returned (.tuple #[.slice none 0 0, .bool false])
  | some ns => ns.length ≤ s.size ∧ ∃ v, e = .returned (.tuple #[v, .bool true]) ∧ OwnI w' w.heap.size v (zs ns)
theorem post_none {s : ByteArray} {w w' : World} {e : Ending} (hv : varsM s = none) (he : e = .returned (.tuple #[.slice none 0 0, .bool false])) (hf : Fr (fun _ => False) w w' (fun _ => False)) : VsPost s w e w' := by
  unfold VsPost; rw [hv]; exact ⟨hf, he⟩
theorem post_some {s : ByteArray} {w w' : World} {e : Ending} {v : Value} {ns : List Nat} (hv : varsM s = some ns) (hl : ns.length ≤ s.size) (he : e = .returned (.tuple #[v, .bool true])) (ho : OwnI w' w.heap.size v (zs ns)) (hf : Fr (fun _ => False) w w' (fun _ => False)) : VsPost s w e w' := by
  unfold VsPost; rw [hv]; exact ⟨hf, hl, v, he, ho⟩

set_option maxHeartbeats 2000000 in
set_option maxRecDepth 20000 in
theorem varints_any (s : ByteArray) (hs : s.size ≤ 1000) (w : World) : Calls Tryz.prog 122 #[.string s] w (VsPost s w) := by
  go_enter Tryz.func122, Tryz.ntmps122
  go_wp2
  go_loopw [0, 4] (fun h v wr => VsRel s w h v wr) (fun h _ _ => strSz h)
  case atStart => exact ⟨s, [], s.size, rfl, Nat.le_refl _, Nat.le_refl _, World.ownsRow_nil _ _ _ _, by simp [varsM], Fr.refl _ w⟩
  case round =>
    obtain ⟨s', ns, f, rfl, hf, hl, ho, hv, hfr⟩ := hrel
    have hsz : w.heap.size ≤ wr.heap.size := hfr.size
    have HO := hide ho
    have HNE := hide ho.lt
    have HF := hide hfr
    have HLE := hide (show (zs ns).length ≤ 1000 by simp [zs]; omega)
    clear ho hfr
    by_cases h0 : 0 < s'.size
    · have hb := str_pos h0
      have hne : bs s' ≠ [] := fun e => absurd h0 (bs_nil.1 e)
      obtain ⟨f, rfl⟩ : ∃ g, f = g + 1 := ⟨f - 1, by omega⟩
      simp only [varsL, if_neg hne] at hv
      have hle := vGo_le 6 0 0 (bs s')
      rw [bs_len, Nat.zero_add] at hle
      have hc := varint_any' s' (by omega)
      unfold varM at hc
      have HV := hide hv
      have HC := hide hc
      clear hv hc
      generalize hx : vGo 6 0 0 (bs s') = x at *
      obtain ⟨n, k⟩ := x
      by_cases hk : k = 0
      · subst hk
        go_wp2_with (go_at_call 138; refine ((unhide HC) _).mono ?_; rintro _ _ ⟨rfl, rfl⟩)
        exact bodyPost_ret (v := .tuple #[.slice none 0 0, .bool false]) (by simp [results, Tryz.results122, go_sem]) rfl (post_none (by rw [← unhide HV]; rfl) rfl (unhide HF))
      · go_wp2_with first
          | (go_at_call 138; refine ((unhide HC) _).mono ?_; rintro _ _ ⟨rfl, rfl⟩)
          | (at_builtin; refine wpList_int rfl (.tmp 16) (.tmp 18) rfl rfl rfl (unhide HO) (unhide HLE) hsz ?_; intro v' w' o' g')
        have hse : (s'.extract k s'.size).size = s'.size - k := by simp [ByteArray.size_extract]
        go_roundw
        case rel =>
          refine ⟨_, ns ++ [n], f, rfl, by omega, by simp; omega, by simpa [zs] using o', ?_, ((unhide HF).alloc _).grown g' (fun j hj => ((unhide HNE) j hj).1)⟩
          rw [← unhide HV, if_neg hk, bs_extract]
          cases varsL f ((bs s').drop k) <;> simp
        case measure => simp only [strSz]; omega
    · cases str_zero h0
      have hvs : varsM s = some ns := by
        have e : bs ⟨#[]⟩ = [] := rfl
        rw [← hv, e]
        cases f <;> simp [varsL]
      have hns : ns.length ≤ s.size := by
        have : (⟨#[]⟩ : ByteArray).size = 0 := rfl
        omega
      clear hv hl
      go_wp2
      exact bodyPost_ret (v := .tuple #[u4, .bool true]) (by simp [results, Tryz.results122, go_sem]) rfl (post_some hvs hns rfl (unhide HO) (unhide HF))
end Go.Proofs.YtfmbebofllgmoaaGreatDoor
namespace Go.Proofs.YtfmbebofllgmoaaGreatDoor
open Go.RowKit
attribute [local go_sem ↓] Go.wp_at_zero Go.wp_at_succ

def risL : Int → List Int → Bool
  | _, [] => true
  | last, f :: t => if f ≤ last ∨ 8 ≤ f then false else risL f t
theorem risL_no {last f : Int} {t : List Int} (h : f ≤ last ∨ 8 ≤ f) : risL last (f :: t) = false := by simp only [risL]; rw [if_pos h]
theorem risL_go {last f : Int} {t : List Int} (h : ¬ (f ≤ last ∨ 8 ≤ f)) : risL last (f :: t) = risL f t := by simp only [risL]; rw [if_neg h]

set_option maxHeartbeats 2000000 in
set_option maxRecDepth 20000 in
theorem rising_any {w : World} {v : Value} {l : List Int} {P : Nat → Prop} (hl : IntsIn w v l P) (hn : l.length ≤ 1000) : Calls Tryz.prog 123 #[v] w fun e w' => e = .returned (.bool (risL (-1) l)) ∧ w' = w := by
  obtain ⟨a, c, rfl, hc⟩ := hl
  have HC := hide hc
  clear hc
  go_enter Tryz.func123, Tryz.ntmps123
  go_wp2
  go_loopw [3, 8] (fun u i wr => wr = w ∧ ∃ (k : Nat) (last : Int), k ≤ l.length ∧ i = .int .i64 k ∧ u = .int .i64 last ∧ risL last (l.drop k) = risL (-1) l) (fun _ i _ => l.length - (intOf i).toNat)
  case atStart => exact ⟨rfl, 0, -1, Nat.zero_le _, rfl, rfl, rfl⟩
  case round =>
    obtain ⟨rfl, k, last, hk, rfl, rfl, hv⟩ := hrel
    by_cases hlt : k < l.length
    · rcases unhide HC with hz | ⟨q, off, rfl, hq, hcell⟩
      · rw [hz] at hlt; simp at hlt
      have cz := hcell k hlt
      have hget : l.getD k 0 = l[k] := by simp [List.getD, hlt]
      rw [hget] at cz
      rw [List.drop_eq_getElem_cons hlt] at hv
      clear hcell hget
      generalize l[k] = z at *
      by_cases h1 : z ≤ last
      · rw [risL_no (.inl h1)] at hv
        have HV := hide hv
        clear hv
        go_wp2
        go_ret
        exact ⟨by rw [← unhide HV]; rfl, rfl⟩
      · by_cases h2 : 8 ≤ z
        · rw [risL_no (.inr h2)] at hv
          have HV := hide hv
          clear hv
          go_wp2
          go_ret
          exact ⟨by rw [← unhide HV]; rfl, rfl⟩
        · rw [risL_go (by omega)] at hv
          have HV := hide hv
          clear hv
          go_wp2
          go_roundw
          case rel => exact ⟨trivial, k + 1, z, hlt, by go_num, rfl, unhide HV⟩
          case measure => simp [intOf]; omega
    · rw [List.drop_eq_nil_of_le (by omega)] at hv
      have HV := hide hv
      clear hv
      go_wp2
      go_ret
      exact ⟨by rw [← unhide HV]; rfl, rfl⟩
end Go.Proofs.YtfmbebofllgmoaaGreatDoor
namespace Go.Proofs.YtfmbebofllgmoaaGreatDoor
open Go.RowKit
attribute [local go_sem ↓] Go.wp_at_zero Go.wp_at_succ

/-- What a kind and numbers tell: of, n, files. -/
def inpN (k : Nat) (ns : List Nat) : Option (Nat × Nat × List Nat) :=
  match k, ns with
  | 1, [a] => if a ≤ 1099511627776 then some (0, a, []) else none
  | 2, a :: t => if a = t.length ∧ risL (-1) (zs t) = true then some (0, 0, t) else none
  | 3, [a, b] => if 2 ≤ a ∧ a ≤ 8 ∧ b < a then some (a, b, []) else none
  | 4, [a, b] => if 1 ≤ a ∧ a ≤ 1000000 ∧ b < a then some (a, b, []) else none
  | 5, [a] => if 1 ≤ a ∧ a ≤ 5 then some (0, a, []) else none
  | _, _ => none
def inpM (b : ByteArray) : Option (Nat × Nat × List Nat) := (varsM (b.extract 1 b.size)).bind (inpN (byteAt b 0))
def InPost (b : ByteArray) (w : World) (e : Ending) (w' : World) : Prop :=
  Fr (fun _ => False) w w' (fun _ => False) ∧ match inpM b with
  | none => ∃ z0 z1 z2 a l c, e = .returned (.tuple #[.agg #[.int .i64 z0, .int .i64 z1, .int .i64 z2, .slice a l c], .bool false])
  | some (o, n, fs) => ∃ a l c, e = .returned (.tuple #[.agg #[.int .i64 (byteAt b 0), .int .i64 o, .int .i64 n, .slice a l c], .bool true]) ∧ OwnI w' w.heap.size (.slice a l c) (zs fs)
theorem in_none {b : ByteArray} {w w' : World} {z0 z1 z2 : Int} {a : Option Addr} {l c : Nat} (h : inpM b = none) (hf : Fr (fun _ => False) w w' (fun _ => False)) : InPost b w (.returned (.tuple #[.agg #[.int .i64 z0, .int .i64 z1, .int .i64 z2, .slice a l c], .bool false])) w' := by
  unfold InPost; rw [h]; exact ⟨hf, z0, z1, z2, a, l, c, rfl⟩
theorem in_some {b : ByteArray} {w w' : World} {o n : Nat} {fs : List Nat} {a : Option Addr} {l c : Nat} {k o' n' : Int} (h : inpM b = some (o, n, fs)) (hk : k = byteAt b 0) (ho : o' = o) (hn : n' = n) (hr : OwnI w' w.heap.size (.slice a l c) (zs fs)) (hf : Fr (fun _ => False) w w' (fun _ => False)) : InPost b w (.returned (.tuple #[.agg #[.int .i64 k, .int .i64 o', .int .i64 n', .slice a l c], .bool true])) w' := by
  unfold InPost; rw [h]; subst hk ho hn; exact ⟨hf, a, l, c, rfl, hr⟩
theorem vs_some {s : ByteArray} {w w' : World} {e : Ending} {ns : List Nat} (h : VsPost s w e w') (hv : varsM s = some ns) : Fr (fun _ => False) w w' (fun _ => False) ∧ ns.length ≤ s.size ∧ ∃ v, e = .returned (.tuple #[v, .bool true]) ∧ OwnI w' w.heap.size v (zs ns) := by
  unfold VsPost at h; rw [hv] at h; exact h
theorem vs_none {s : ByteArray} {w w' : World} {e : Ending} (h : VsPost s w e w') (hv : varsM s = none) : Fr (fun _ => False) w w' (fun _ => False) ∧ e = .returned (.tuple #[.slice none 0 0, .bool false]) := by
  unfold VsPost at h; rw [hv] at h; exact h

theorem res_fr {w w1 : World} {o : Obj} (f : Fr (fun _ => False) (w.alloc o) w1 (fun _ => False)) (a b c d : Value) : Fr (fun _ => False) w (((w1.setCell ⟨w.heap.size, 0, none⟩ a).setCell ⟨w.heap.size, 1, none⟩ b).setCell ⟨w.heap.size, 2, none⟩ c |>.setCell ⟨w.heap.size, 3, none⟩ d) (fun _ => False) :=
  ((((f.unalloc.setCell _ _ (.inr (Nat.le_refl _))).setCell _ _ (.inr (Nat.le_refl _))).setCell _ _ (.inr (Nat.le_refl _))).setCell _ _ (.inr (Nat.le_refl _)))
/-- The answer's block, as it was made. -/
def ResB (w w1 : World) : Prop := (w1.cell? ⟨w.heap.size, 0, none⟩ = some (.int .i64 0) ∧ w1.cell? ⟨w.heap.size, 1, none⟩ = some (.int .i64 0) ∧ w1.cell? ⟨w.heap.size, 2, none⟩ = some (.int .i64 0) ∧ w1.cell? ⟨w.heap.size, 3, none⟩ = some (.slice none 0 0)) ∧ ∀ j, w1.frozen? ⟨w.heap.size, j, none⟩ = false
theorem resB {w w1 : World} (f : Fr (fun _ => False) (w.alloc (.cells #[.int .i64 0, .int .i64 0, .int .i64 0, .slice none 0 0] 49)) w1 (fun _ => False)) : ResB w w1 := by
  have k := f.same w.heap.size (by simp) (fun h => h)
  refine ⟨⟨?_, ?_, ?_, ?_⟩, fun j => ?_⟩
  · exact (World.cell?_of_block (a := ⟨w.heap.size, 0, none⟩) k).trans (by simp [go_sem])
  · exact (World.cell?_of_block (a := ⟨w.heap.size, 1, none⟩) k).trans (by simp [go_sem])
  · exact (World.cell?_of_block (a := ⟨w.heap.size, 2, none⟩) k).trans (by simp [go_sem])
  · exact (World.cell?_of_block (a := ⟨w.heap.size, 3, none⟩) k).trans (by simp [go_sem])
  · exact (World.frozen?_of_block (a := ⟨w.heap.size, j, none⟩) k).trans (by simp [go_sem])

set_option maxHeartbeats 2000000 in
set_option maxRecDepth 20000 in
theorem input_bad (b : ByteArray) (h0 : 0 < b.size) (hs : b.size ≤ 40) (w : World) (hv : varsM (b.extract 1 b.size) = none) : Calls Tryz.prog 101 #[.string b] w (InPost b w) := by
  have hse : (b.extract 1 b.size).size = b.size - 1 := by simp [ByteArray.size_extract]
  have HM : Hid (inpM b = none) := hide (by unfold inpM; rw [hv]; rfl)
  have HV := hide hv
  have HC := hide fun w => varints_any (b.extract 1 b.size) (by omega) w
  clear hv
  go_enter Tryz.func101, Tryz.ntmps101
  go_wp2_with (go_at_call 122; refine (unhide HC _).mono ?_; rintro e w1 p1; obtain ⟨f1, rfl⟩ := vs_none p1 (unhide HV); have F1 := hide f1; obtain ⟨⟨r0, r1, r2, r3⟩, rz⟩ := resB f1; clear p1 f1)
  refine bodyPost_ret (v := .tuple #[.agg #[.int .i64 0, .int .i64 0, .int .i64 0, .slice none 0 0], .bool false]) (by simp [results, Tryz.results101, go_sem, r0, r1, r2, r3]) rfl (in_none (unhide HM) (res_fr (unhide F1) _ _ _ _))

set_option maxHeartbeats 2000000 in
set_option maxRecDepth 20000 in
theorem input_clock (b : ByteArray) (h0 : 0 < b.size) (hs : b.size ≤ 40) (w : World) (x : Nat) (hv : varsM (b.extract 1 b.size) = some [x]) (hk : byteAt b 0 = 1) : Calls Tryz.prog 101 #[.string b] w (InPost b w) := by
  have hse : (b.extract 1 b.size).size = b.size - 1 := by simp [ByteArray.size_extract]
  have HM : Hid (inpM b = if x ≤ 1099511627776 then some (0, x, []) else none) := hide (by unfold inpM; rw [hv, hk]; rfl)
  have hb0 : ((b[0]'h0).toNat : Int) = 1 := by rw [← byteAt_eq b 0 h0, hk]; rfl
  have HK := hide hk
  have HV := hide hv
  have HC := hide fun w => varints_any (b.extract 1 b.size) (by omega) w
  clear hv
  go_enter Tryz.func101, Tryz.ntmps101
  go_wp2_with (go_at_call 122; (refine (unhide HC _).mono ?_; rintro e w1 p1; obtain ⟨f1, hl1, v1, rfl, o1⟩ := vs_some p1 (unhide HV); have F1 := hide f1; obtain ⟨g, cap, cur, rfl, hg1, hg2, hg3, hg4, hg5, hg6⟩ := ownI_parts o1 (by simp [zs]); have cz := hg6 0 (by simp [zs]); simp only [zs, List.map_cons, List.map_nil, List.getD_cons_zero, List.length_cons, List.length_nil, Int.ofNat_eq_natCast] at cz hg3 ⊢; have hg7 : w.heap.size < g := (by simp at hg1; omega); have hne : w.heap.size ≠ g := (by omega); clear hg1 hg2 hg4 hg5 cur hl1 hk; obtain ⟨⟨r0, r1, r2, r3⟩, rz⟩ := resB f1; clear p1 f1 o1 hg6))
  by_cases hx : (x : Int) ≤ 1099511627776
  · go_region
    go_wp2
    refine bodyPost_ret (v := .tuple #[.agg #[.int .i64 1, .int .i64 0, .int .i64 x, .slice none 0 0], .bool true]) (by simp [results, Tryz.results101, go_sem, r0, r1, r2, r3]) rfl (in_some (o := 0) (n := x) (fs := []) (by rw [unhide HM, if_pos (by omega)]) (by rw [unhide HK]; rfl) rfl rfl (World.ownsRow_nil _ _ _ _) (res_fr (unhide F1) _ _ _ _).drew)
  · go_region
    go_wp2
    exact bodyPost_ret (v := .tuple #[.agg #[.int .i64 1, .int .i64 0, .int .i64 x, .slice none 0 0], .bool false]) (by simp [results, Tryz.results101, go_sem, r0, r1, r2, r3]) rfl (in_none (by rw [unhide HM, if_neg (by omega)]) (res_fr (unhide F1) _ _ _ _).drew)

set_option maxHeartbeats 2000000 in
set_option maxRecDepth 20000 in
theorem input_end (b : ByteArray) (h0 : 0 < b.size) (hs : b.size ≤ 40) (w : World) (x : Nat) (hv : varsM (b.extract 1 b.size) = some [x]) (hk : byteAt b 0 = 5) : Calls Tryz.prog 101 #[.string b] w (InPost b w) := by
  have hse : (b.extract 1 b.size).size = b.size - 1 := by simp [ByteArray.size_extract]
  have HM : Hid (inpM b = if 1 ≤ x ∧ x ≤ 5 then some (0, x, []) else none) := hide (by unfold inpM; rw [hv, hk]; rfl)
  have hb0 : ((b[0]'h0).toNat : Int) = 5 := by rw [← byteAt_eq b 0 h0, hk]; rfl
  have HK := hide hk
  have HV := hide hv
  have HC := hide fun w => varints_any (b.extract 1 b.size) (by omega) w
  clear hv
  go_enter Tryz.func101, Tryz.ntmps101
  go_wp2_with (go_at_call 122; (refine (unhide HC _).mono ?_; rintro e w1 p1; obtain ⟨f1, hl1, v1, rfl, o1⟩ := vs_some p1 (unhide HV); have F1 := hide f1; obtain ⟨g, cap, cur, rfl, hg1, hg2, hg3, hg4, hg5, hg6⟩ := ownI_parts o1 (by simp [zs]); have cz := hg6 0 (by simp [zs]); simp only [zs, List.map_cons, List.map_nil, List.getD_cons_zero, List.length_cons, List.length_nil, Int.ofNat_eq_natCast] at cz hg3 ⊢; have hg7 : w.heap.size < g := (by simp at hg1; omega); have hne : w.heap.size ≠ g := (by omega); clear hg1 hg2 hg4 hg5 cur hl1 hk; obtain ⟨⟨r0, r1, r2, r3⟩, rz⟩ := resB f1; clear p1 f1 o1 hg6))
  by_cases hx : 1 ≤ x ∧ x ≤ 5
  · have hw : (decide ((1 : Int) ≤ x) && decide ((x : Int) ≤ 5)) = true := by simp; omega
    have HW := hide hw
    clear hw
    go_region_with (go_at_call 124; refine (within_any _ _ _ _).mono ?_; rintro _ _ ⟨rfl, rfl⟩; rw [unhide HW])
    all_goals
      go_wp2
      exact bodyPost_ret (v := .tuple #[.agg #[.int .i64 5, .int .i64 0, .int .i64 x, .slice none 0 0], .bool true]) (by simp [results, Tryz.results101, go_sem, Act.put, r0, r1, r2, r3]) rfl (in_some (o := 0) (n := x) (fs := []) (by rw [unhide HM, if_pos hx]) (by rw [unhide HK]; rfl) rfl rfl (World.ownsRow_nil _ _ _ _) (res_fr (unhide F1) _ _ _ _).drew)
  · have hw : (decide ((1 : Int) ≤ x) && decide ((x : Int) ≤ 5)) = false := by simp; omega
    have HW := hide hw
    clear hw
    go_region_with (go_at_call 124; refine (within_any _ _ _ _).mono ?_; rintro _ _ ⟨rfl, rfl⟩; rw [unhide HW])
    all_goals
      go_wp2
      exact bodyPost_ret (v := .tuple #[.agg #[.int .i64 5, .int .i64 0, .int .i64 x, .slice none 0 0], .bool false]) (by simp [results, Tryz.results101, go_sem, Act.put, r0, r1, r2, r3]) rfl (in_none (by rw [unhide HM, if_neg hx]) (res_fr (unhide F1) _ _ _ _).drew)
end Go.Proofs.YtfmbebofllgmoaaGreatDoor
namespace Go.Proofs.YtfmbebofllgmoaaGreatDoor
open Go.RowKit
attribute [local go_sem ↓] Go.wp_at_zero Go.wp_at_succ

/-- The kind and how many numbers there are do not go together. -/
def Unfit (k m : Nat) : Prop := (k = 1 ∧ m ≠ 1) ∨ (k = 2 ∧ m = 0) ∨ (k = 3 ∧ m ≠ 2) ∨ (k = 4 ∧ m ≠ 2) ∨ (k = 5 ∧ m ≠ 1) ∨ (k ≠ 1 ∧ k ≠ 2 ∧ k ≠ 3 ∧ k ≠ 4 ∧ k ≠ 5)
theorem inpN_unfit {k : Nat} {ns : List Nat} (h : Unfit k ns.length) : inpN k ns = none := by
  unfold inpN
  unfold Unfit at h
  split
  all_goals first | rfl | (simp only [List.length_cons, List.length_nil] at h; omega)

theorem ownI_slice {w : World} {B : Nat} {v : Value} {l : List Int} (h : OwnI w B v l) : ∃ a c, v = .slice a l.length c := by
  rcases h.2 with ⟨hv, h0⟩ | ⟨g, cap, cur, hv, _⟩
  · have h1 : l.length = 0 := h0
    exact ⟨none, 0, by rw [h1]; exact hv⟩
  · exact ⟨_, _, hv⟩
theorem zs_len (l : List Nat) : (zs l).length = l.length := by simp [zs]
set_option maxHeartbeats 4000000 in
set_option maxRecDepth 20000 in
theorem input_unfit (b : ByteArray) (h0 : 0 < b.size) (hs : b.size ≤ 40) (w : World) (ns : List Nat) (hv : varsM (b.extract 1 b.size) = some ns) (hu : Unfit (byteAt b 0) ns.length) (hk : byteAt b 0 ≤ 5 ∧ 1 ≤ byteAt b 0) : Calls Tryz.prog 101 #[.string b] w (InPost b w) := by
  have hse : (b.extract 1 b.size).size = b.size - 1 := by simp [ByteArray.size_extract]
  have HM : Hid (inpM b = none) := hide (by unfold inpM; rw [hv]; exact inpN_unfit hu)
  have HV := hide hv
  have HC := hide fun w => varints_any (b.extract 1 b.size) (by omega) w
  unfold Unfit at hu
  rw [byteAt_eq b 0 h0] at hu hk
  clear hv
  rcases hu with ⟨hb0, hm⟩ | ⟨hb0, hm⟩ | ⟨hb0, hm⟩ | ⟨hb0, hm⟩ | ⟨hb0, hm⟩ | ⟨hb1, hb2, hb3, hb4, hb5⟩
  all_goals first | (exfalso; omega) | skip
  · have hb0' : ((b[0]'h0).toNat : Int) = 1 := by omega
    clear hb0 hk
    go_enter Tryz.func101, Tryz.ntmps101
    go_wp2_with (go_at_call 122; (refine (unhide HC _).mono ?_; rintro e w1 p1; obtain ⟨f1, hl1, v1, rfl, o1⟩ := vs_some p1 (unhide HV); have F1 := hide f1; obtain ⟨a1, c1, rfl⟩ := ownI_slice o1; rw [zs_len]; obtain ⟨⟨r0, r1, r2, r3⟩, rz⟩ := resB f1; clear p1 f1 o1))
    exact bodyPost_ret (v := .tuple #[.agg #[.int .i64 0, .int .i64 0, .int .i64 0, .slice none 0 0], .bool false]) (by simp [results, Tryz.results101, go_sem, r0, r1, r2, r3]) rfl (in_none (unhide HM) (res_fr (unhide F1) _ _ _ _))
  · have hb0' : ((b[0]'h0).toNat : Int) = 2 := by omega
    clear hb0 hk
    go_enter Tryz.func101, Tryz.ntmps101
    go_wp2_with (go_at_call 122; (refine (unhide HC _).mono ?_; rintro e w1 p1; obtain ⟨f1, hl1, v1, rfl, o1⟩ := vs_some p1 (unhide HV); have F1 := hide f1; obtain ⟨a1, c1, rfl⟩ := ownI_slice o1; rw [zs_len]; obtain ⟨⟨r0, r1, r2, r3⟩, rz⟩ := resB f1; clear p1 f1 o1))
    exact bodyPost_ret (v := .tuple #[.agg #[.int .i64 0, .int .i64 0, .int .i64 0, .slice none 0 0], .bool false]) (by simp [results, Tryz.results101, go_sem, r0, r1, r2, r3]) rfl (in_none (unhide HM) (res_fr (unhide F1) _ _ _ _))
  · have hb0' : ((b[0]'h0).toNat : Int) = 3 := by omega
    clear hb0 hk
    go_enter Tryz.func101, Tryz.ntmps101
    go_wp2_with (go_at_call 122; (refine (unhide HC _).mono ?_; rintro e w1 p1; obtain ⟨f1, hl1, v1, rfl, o1⟩ := vs_some p1 (unhide HV); have F1 := hide f1; obtain ⟨a1, c1, rfl⟩ := ownI_slice o1; rw [zs_len]; obtain ⟨⟨r0, r1, r2, r3⟩, rz⟩ := resB f1; clear p1 f1 o1))
    exact bodyPost_ret (v := .tuple #[.agg #[.int .i64 0, .int .i64 0, .int .i64 0, .slice none 0 0], .bool false]) (by simp [results, Tryz.results101, go_sem, r0, r1, r2, r3]) rfl (in_none (unhide HM) (res_fr (unhide F1) _ _ _ _))
  · have hb0' : ((b[0]'h0).toNat : Int) = 4 := by omega
    clear hb0 hk
    go_enter Tryz.func101, Tryz.ntmps101
    go_wp2_with (go_at_call 122; (refine (unhide HC _).mono ?_; rintro e w1 p1; obtain ⟨f1, hl1, v1, rfl, o1⟩ := vs_some p1 (unhide HV); have F1 := hide f1; obtain ⟨a1, c1, rfl⟩ := ownI_slice o1; rw [zs_len]; obtain ⟨⟨r0, r1, r2, r3⟩, rz⟩ := resB f1; clear p1 f1 o1))
    exact bodyPost_ret (v := .tuple #[.agg #[.int .i64 0, .int .i64 0, .int .i64 0, .slice none 0 0], .bool false]) (by simp [results, Tryz.results101, go_sem, r0, r1, r2, r3]) rfl (in_none (unhide HM) (res_fr (unhide F1) _ _ _ _))
  · have hb0' : ((b[0]'h0).toNat : Int) = 5 := by omega
    clear hb0 hk
    go_enter Tryz.func101, Tryz.ntmps101
    go_wp2_with (go_at_call 122; (refine (unhide HC _).mono ?_; rintro e w1 p1; obtain ⟨f1, hl1, v1, rfl, o1⟩ := vs_some p1 (unhide HV); have F1 := hide f1; obtain ⟨a1, c1, rfl⟩ := ownI_slice o1; rw [zs_len]; obtain ⟨⟨r0, r1, r2, r3⟩, rz⟩ := resB f1; clear p1 f1 o1))
    exact bodyPost_ret (v := .tuple #[.agg #[.int .i64 0, .int .i64 0, .int .i64 0, .slice none 0 0], .bool false]) (by simp [results, Tryz.results101, go_sem, r0, r1, r2, r3]) rfl (in_none (unhide HM) (res_fr (unhide F1) _ _ _ _))
end Go.Proofs.YtfmbebofllgmoaaGreatDoor
namespace Go.Proofs.YtfmbebofllgmoaaGreatDoor
open Go.RowKit
attribute [local go_sem ↓] Go.wp_at_zero Go.wp_at_succ

section
variable {P : Program} {ops : Array Oper} {Q : Exit → Act → World → Prop} {md : Region.Mode} {S : World → Prop} {i : Nat} {oi : Oper} {fuel d : Nat} {listed : Array Bool} {a : Act} {w : World}
theorem take_yes {v : Value} (ho : ops[i]? = some oi) (hd : oi.dst = some d) (hn : Region.noSelect ops = true) (hf : Region.free md ops listed i = true) (hr : (Region.ready md ops listed).contains i = true) (hq : ∀ (c : List PanicEntry) (a : Act) (w : World), Q (Exit.panic c) (a.put oi.dst v) w → Q (Exit.panic c) a w)
    (hw : Region.wanted oi (yielded ops a.tmps) = true) (hy : ∀ w, S w → (execOp a.eval oi).run P w = .ok (.value v) w) (hS : S w) (h : wpAnyH P md ops Q S fuel (listed.setIfInBounds i true) ⟨a.tmps.setIfInBounds d v, a.defers⟩ w) : wpAnyH P md ops Q S (fuel + 1) listed a w :=
  wpAnyH_take ho hn hf hr hq (Or.inl ⟨hw, hy⟩) hS (by rw [hd]; exact h)
theorem take_no (ho : ops[i]? = some oi) (hd : oi.dst = some d) (hn : Region.noSelect ops = true) (hf : Region.free md ops listed i = true) (hr : (Region.ready md ops listed).contains i = true) (hq : ∀ (c : List PanicEntry) (a : Act) (w : World), Q (Exit.panic c) (a.put oi.dst undef) w → Q (Exit.panic c) a w)
    (hw : Region.wanted oi (yielded ops a.tmps) = false) (hS : S w) (h : wpAnyH P md ops Q S fuel (listed.setIfInBounds i true) ⟨a.tmps.setIfInBounds d undef, a.defers⟩ w) : wpAnyH P md ops Q S (fuel + 1) listed a w :=
  wpAnyH_take ho hn hf hr hq (Or.inr ⟨hw, rfl⟩) hS (by rw [hd]; exact h)
end

set_option maxHeartbeats 2000000 in
set_option maxRecDepth 20000 in
theorem input_pick_out (b : ByteArray) (h0 : 0 < b.size) (hs : b.size ≤ 40) (w : World) (x y : Nat) (hv : varsM (b.extract 1 b.size) = some [x, y]) (hk : byteAt b 0 = 3) (hx : ¬ (2 ≤ x ∧ x ≤ 8)) : Calls Tryz.prog 101 #[.string b] w (InPost b w) := by
  have hse : (b.extract 1 b.size).size = b.size - 1 := by simp [ByteArray.size_extract]
  have HM : Hid (inpM b = if 2 ≤ x ∧ x ≤ 8 ∧ y < x then some (x, y, []) else none) := hide (by unfold inpM; rw [hv, hk]; rfl)
  have hb0 : ((b[0]'h0).toNat : Int) = 3 := by rw [← byteAt_eq b 0 h0, hk]; rfl
  have HV := hide hv
  have HC := hide fun w => varints_any (b.extract 1 b.size) (by omega) w
  clear hv
  go_enter Tryz.func101, Tryz.ntmps101
  go_wp2_with (go_at_call 122; (refine (unhide HC _).mono ?_; rintro e w1 p1; obtain ⟨f1, hl1, v1, rfl, o1⟩ := vs_some p1 (unhide HV); have F1 := hide f1; obtain ⟨g, cap, cur, rfl, hg1, hg2, hg3, hg4, hg5, hg6⟩ := ownI_parts o1 (by simp [zs]); have cz := hg6 0 (by simp [zs]); have cy := hg6 1 (by simp [zs]); simp only [zs, List.map_cons, List.map_nil, List.getD_cons_zero, List.getD_cons_succ, List.length_cons, List.length_nil, Int.ofNat_eq_natCast] at cz cy hg3 ⊢; have hg7 : w.heap.size < g := (by simp at hg1; omega); have hne : w.heap.size ≠ g := (by omega); clear hg1 hg2 hg4 hg5 cur hl1 hk; obtain ⟨⟨r0, r1, r2, r3⟩, rz⟩ := resB f1; clear p1 f1 o1 hg6))
  have hw : (decide ((2 : Int) ≤ x) && decide ((x : Int) ≤ 8)) = false := by simp; omega
  have HW := hide hw
  have HX := hide hx
  clear hw hx
  refine wp_region_held_drew (S := fun w' => w'.cell? ⟨g, 0, none⟩ = some (.int .i64 x) ∧ w'.cell? ⟨g, 1, none⟩ = some (.int .i64 y)) (by kernel_rfl) ?_ (fun hHeld => ?_)
  · simp [go_sem, cz, cy]
  refine take_yes (i := 0) (d := 69) (v := ?_) (fuel := 22) rfl rfl (by kernel_rfl) (by kernel_rfl) (by kernel_rfl) (fun _ _ _ h => h) (by rfl) ?_ (by assumption) ?_
  rotate_left
  · intro w hSw; (try dsimp only at hSw); go_simp; try with_reducible rfl
  simp only [List.setIfInBounds_toArray, List.set_cons_zero, List.set_cons_succ]
  refine take_yes (i := 1) (d := 70) (v := ?_) (fuel := 21) rfl rfl (by kernel_rfl) (by kernel_rfl) (by kernel_rfl) (fun _ _ _ h => h) (by rfl) ?_ (by assumption) ?_
  rotate_left
  · intro w hSw; (try dsimp only at hSw); go_simp; try with_reducible rfl
  simp only [List.setIfInBounds_toArray, List.set_cons_zero, List.set_cons_succ]
  refine take_yes (i := 2) (d := 71) (v := ?_) (fuel := 20) rfl rfl (by kernel_rfl) (by kernel_rfl) (by kernel_rfl) (fun _ _ _ h => h) (by rfl) ?_ (by assumption) ?_
  rotate_left
  · intro w hSw; (try dsimp only at hSw); go_simp; try with_reducible rfl
  simp only [List.setIfInBounds_toArray, List.set_cons_zero, List.set_cons_succ]
  refine take_yes (i := 3) (d := 72) (v := ?_) (fuel := 19) rfl rfl (by kernel_rfl) (by kernel_rfl) (by kernel_rfl) (fun _ _ _ h => h) (by rfl) ?_ (by assumption) ?_
  rotate_left
  · intro w hSw; (try dsimp only at hSw); go_simp; try with_reducible rfl
  simp only [List.setIfInBounds_toArray, List.set_cons_zero, List.set_cons_succ]
  refine take_yes (i := 4) (d := 73) (v := ?_) (fuel := 18) rfl rfl (by kernel_rfl) (by kernel_rfl) (by kernel_rfl) (fun _ _ _ h => h) (by rfl) ?_ (by assumption) ?_
  rotate_left
  · intro w hSw; (try dsimp only at hSw); go_simp; try with_reducible rfl
  simp only [List.setIfInBounds_toArray, List.set_cons_zero, List.set_cons_succ]
  refine take_yes (i := 5) (d := 74) (v := ?_) (fuel := 17) rfl rfl (by kernel_rfl) (by kernel_rfl) (by kernel_rfl) (fun _ _ _ h => h) (by rfl) ?_ (by assumption) ?_
  rotate_left
  · intro w hSw; (try dsimp only at hSw); go_simp; try with_reducible rfl
  simp only [List.setIfInBounds_toArray, List.set_cons_zero, List.set_cons_succ]
  refine take_yes (i := 6) (d := 75) (v := ?_) (fuel := 16) rfl rfl (by kernel_rfl) (by kernel_rfl) (by kernel_rfl) (fun _ _ _ h => h) (by rfl) ?_ (by assumption) ?_
  rotate_left
  · intro w hSw; (try dsimp only at hSw); go_simp; try with_reducible rfl
  simp only [List.setIfInBounds_toArray, List.set_cons_zero, List.set_cons_succ]
  refine take_yes (i := 7) (d := 76) (v := ?_) (fuel := 15) rfl rfl (by kernel_rfl) (by kernel_rfl) (by kernel_rfl) (fun _ _ _ h => h) (by rfl) ?_ (by assumption) ?_
  rotate_left
  · intro w hSw; (try dsimp only at hSw); go_simp; try with_reducible rfl
  simp only [List.setIfInBounds_toArray, List.set_cons_zero, List.set_cons_succ]
  refine take_yes (i := 8) (d := 77) (v := ?_) (fuel := 14) rfl rfl (by kernel_rfl) (by kernel_rfl) (by kernel_rfl) (fun _ _ _ h => h) (by rfl) ?_ (by assumption) ?_
  rotate_left
  · intro w hSw; (try dsimp only at hSw); go_simp; try with_reducible rfl
  simp only [List.setIfInBounds_toArray, List.set_cons_zero, List.set_cons_succ]
  refine take_yes (i := 9) (d := 78) (v := ?_) (fuel := 13) rfl rfl (by kernel_rfl) (by kernel_rfl) (by kernel_rfl) (fun _ _ _ h => h) (by rfl) ?_ (by assumption) ?_
  rotate_left
  · intro w hSw; (try dsimp only at hSw); go_simp; try with_reducible rfl
  simp only [List.setIfInBounds_toArray, List.set_cons_zero, List.set_cons_succ]
  refine take_yes (i := 10) (d := 79) (v := ?_) (fuel := 12) rfl rfl (by kernel_rfl) (by kernel_rfl) (by kernel_rfl) (fun _ _ _ h => h) (by rfl) ?_ (by assumption) ?_
  rotate_left
  · intro w hSw; (try dsimp only at hSw); go_simp; try with_reducible rfl
  simp only [List.setIfInBounds_toArray, List.set_cons_zero, List.set_cons_succ]
  refine wpAnyH_ready (rs := [11]) (by kernel_rfl) (by simp) ?_
  refine AllReadyH.cons rfl (fun K hK => ?_) AllReadyH.nil
  go_simp
  go_at_call 124
  refine (within_any _ _ _ _).mono ?_
  rintro _ _ ⟨rfl, rfl⟩
  rw [unhide HW]
  refine hK.out _ _ ?_ (fun hHeld => ?_)
  · simp [go_sem, cz, cy]
  clear hK K
  refine take_yes (i := 12) (d := 81) (v := ?_) (fuel := 10) rfl rfl (by kernel_rfl) (by kernel_rfl) (by kernel_rfl) (fun _ _ _ h => h) (by rfl) ?_ (by assumption) ?_
  rotate_left
  · intro w hSw; (try dsimp only at hSw); go_simp; try with_reducible rfl
  simp only [List.setIfInBounds_toArray, List.set_cons_zero, List.set_cons_succ]
  refine take_no (i := 13) (d := 82) (fuel := 9) rfl rfl (by kernel_rfl) (by kernel_rfl) (by kernel_rfl) (fun _ _ _ h => h) (by rfl) (by assumption) ?_
  simp only [List.setIfInBounds_toArray, List.set_cons_zero, List.set_cons_succ]
  refine take_no (i := 14) (d := 83) (fuel := 8) rfl rfl (by kernel_rfl) (by kernel_rfl) (by kernel_rfl) (fun _ _ _ h => h) (by rfl) (by assumption) ?_
  simp only [List.setIfInBounds_toArray, List.set_cons_zero, List.set_cons_succ]
  refine take_no (i := 15) (d := 84) (fuel := 7) rfl rfl (by kernel_rfl) (by kernel_rfl) (by kernel_rfl) (fun _ _ _ h => h) (by rfl) (by assumption) ?_
  simp only [List.setIfInBounds_toArray, List.set_cons_zero, List.set_cons_succ]
  refine take_no (i := 16) (d := 85) (fuel := 6) rfl rfl (by kernel_rfl) (by kernel_rfl) (by kernel_rfl) (fun _ _ _ h => h) (by rfl) (by assumption) ?_
  simp only [List.setIfInBounds_toArray, List.set_cons_zero, List.set_cons_succ]
  refine take_no (i := 17) (d := 86) (fuel := 5) rfl rfl (by kernel_rfl) (by kernel_rfl) (by kernel_rfl) (fun _ _ _ h => h) (by rfl) (by assumption) ?_
  simp only [List.setIfInBounds_toArray, List.set_cons_zero, List.set_cons_succ]
  refine take_no (i := 18) (d := 87) (fuel := 4) rfl rfl (by kernel_rfl) (by kernel_rfl) (by kernel_rfl) (fun _ _ _ h => h) (by rfl) (by assumption) ?_
  simp only [List.setIfInBounds_toArray, List.set_cons_zero, List.set_cons_succ]
  refine take_no (i := 19) (d := 88) (fuel := 3) rfl rfl (by kernel_rfl) (by kernel_rfl) (by kernel_rfl) (fun _ _ _ h => h) (by rfl) (by assumption) ?_
  simp only [List.setIfInBounds_toArray, List.set_cons_zero, List.set_cons_succ]
  refine take_yes (i := 20) (d := 89) (v := ?_) (fuel := 2) rfl rfl (by kernel_rfl) (by kernel_rfl) (by kernel_rfl) (fun _ _ _ h => h) (by rfl) ?_ (by assumption) ?_
  rotate_left
  · intro w hSw; (try dsimp only at hSw); go_simp; try with_reducible rfl
  simp only [List.setIfInBounds_toArray, List.set_cons_zero, List.set_cons_succ]
  refine wpAnyH_ready (rs := [21]) (by kernel_rfl) (by simp) ?_
  refine AllReadyH.cons rfl (fun K hK => ?_) AllReadyH.nil
  go_simp
  refine hK.out _ _ ?_ (fun hHeld => ?_)
  · simp [go_sem, cz, cy]
  clear hK K
  refine take_yes (i := 22) (d := 3) (v := ?_) (fuel := 0) rfl rfl (by kernel_rfl) (by kernel_rfl) (by kernel_rfl) (fun _ _ _ h => h) (by rfl) ?_ (by assumption) ?_
  rotate_left
  · intro w hSw; (try dsimp only at hSw); go_simp; try with_reducible rfl
  simp only [List.setIfInBounds_toArray, List.set_cons_zero, List.set_cons_succ]
  refine wpAnyH_done (by kernel_rfl) ?_ _
  go_wp2
  exact bodyPost_ret (v := .tuple #[.agg #[.int .i64 3, .int .i64 x, .int .i64 y, .slice none 0 0], .bool false]) (by simp [results, Tryz.results101, go_sem, r0, r1, r2, r3]) rfl (in_none (by rw [unhide HM, if_neg (by have := unhide HX; omega)]) (res_fr (unhide F1) _ _ _ _).drew)

set_option maxHeartbeats 2000000 in
set_option maxRecDepth 20000 in
theorem input_lot_out (b : ByteArray) (h0 : 0 < b.size) (hs : b.size ≤ 40) (w : World) (x y : Nat) (hv : varsM (b.extract 1 b.size) = some [x, y]) (hk : byteAt b 0 = 4) (hx : ¬ (1 ≤ x ∧ x ≤ 1000000)) : Calls Tryz.prog 101 #[.string b] w (InPost b w) := by
  have hse : (b.extract 1 b.size).size = b.size - 1 := by simp [ByteArray.size_extract]
  have HM : Hid (inpM b = if 1 ≤ x ∧ x ≤ 1000000 ∧ y < x then some (x, y, []) else none) := hide (by unfold inpM; rw [hv, hk]; rfl)
  have hb0 : ((b[0]'h0).toNat : Int) = 4 := by rw [← byteAt_eq b 0 h0, hk]; rfl
  have HV := hide hv
  have HC := hide fun w => varints_any (b.extract 1 b.size) (by omega) w
  clear hv
  go_enter Tryz.func101, Tryz.ntmps101
  go_wp2_with (go_at_call 122; (refine (unhide HC _).mono ?_; rintro e w1 p1; obtain ⟨f1, hl1, v1, rfl, o1⟩ := vs_some p1 (unhide HV); have F1 := hide f1; obtain ⟨g, cap, cur, rfl, hg1, hg2, hg3, hg4, hg5, hg6⟩ := ownI_parts o1 (by simp [zs]); have cz := hg6 0 (by simp [zs]); have cy := hg6 1 (by simp [zs]); simp only [zs, List.map_cons, List.map_nil, List.getD_cons_zero, List.getD_cons_succ, List.length_cons, List.length_nil, Int.ofNat_eq_natCast] at cz cy hg3 ⊢; have hg7 : w.heap.size < g := (by simp at hg1; omega); have hne : w.heap.size ≠ g := (by omega); clear hg1 hg2 hg4 hg5 cur hl1 hk; obtain ⟨⟨r0, r1, r2, r3⟩, rz⟩ := resB f1; clear p1 f1 o1 hg6))
  have hw : (decide ((1 : Int) ≤ x) && decide ((x : Int) ≤ 1000000)) = false := by simp; omega
  have HW := hide hw
  have HX := hide hx
  clear hw hx
  refine wp_region_held_drew (S := fun w' => w'.cell? ⟨g, 0, none⟩ = some (.int .i64 x) ∧ w'.cell? ⟨g, 1, none⟩ = some (.int .i64 y)) (by kernel_rfl) ?_ (fun hHeld => ?_)
  · simp [go_sem, cz, cy]
  refine take_yes (i := 0) (d := 98) (v := ?_) (fuel := 22) rfl rfl (by kernel_rfl) (by kernel_rfl) (by kernel_rfl) (fun _ _ _ h => h) (by rfl) ?_ (by assumption) ?_
  rotate_left
  · intro w hSw; (try dsimp only at hSw); go_simp; try with_reducible rfl
  simp only [List.setIfInBounds_toArray, List.set_cons_zero, List.set_cons_succ]
  refine take_yes (i := 1) (d := 99) (v := ?_) (fuel := 21) rfl rfl (by kernel_rfl) (by kernel_rfl) (by kernel_rfl) (fun _ _ _ h => h) (by rfl) ?_ (by assumption) ?_
  rotate_left
  · intro w hSw; (try dsimp only at hSw); go_simp; try with_reducible rfl
  simp only [List.setIfInBounds_toArray, List.set_cons_zero, List.set_cons_succ]
  refine take_yes (i := 2) (d := 100) (v := ?_) (fuel := 20) rfl rfl (by kernel_rfl) (by kernel_rfl) (by kernel_rfl) (fun _ _ _ h => h) (by rfl) ?_ (by assumption) ?_
  rotate_left
  · intro w hSw; (try dsimp only at hSw); go_simp; try with_reducible rfl
  simp only [List.setIfInBounds_toArray, List.set_cons_zero, List.set_cons_succ]
  refine take_yes (i := 3) (d := 101) (v := ?_) (fuel := 19) rfl rfl (by kernel_rfl) (by kernel_rfl) (by kernel_rfl) (fun _ _ _ h => h) (by rfl) ?_ (by assumption) ?_
  rotate_left
  · intro w hSw; (try dsimp only at hSw); go_simp; try with_reducible rfl
  simp only [List.setIfInBounds_toArray, List.set_cons_zero, List.set_cons_succ]
  refine take_yes (i := 4) (d := 102) (v := ?_) (fuel := 18) rfl rfl (by kernel_rfl) (by kernel_rfl) (by kernel_rfl) (fun _ _ _ h => h) (by rfl) ?_ (by assumption) ?_
  rotate_left
  · intro w hSw; (try dsimp only at hSw); go_simp; try with_reducible rfl
  simp only [List.setIfInBounds_toArray, List.set_cons_zero, List.set_cons_succ]
  refine take_yes (i := 5) (d := 103) (v := ?_) (fuel := 17) rfl rfl (by kernel_rfl) (by kernel_rfl) (by kernel_rfl) (fun _ _ _ h => h) (by rfl) ?_ (by assumption) ?_
  rotate_left
  · intro w hSw; (try dsimp only at hSw); go_simp; try with_reducible rfl
  simp only [List.setIfInBounds_toArray, List.set_cons_zero, List.set_cons_succ]
  refine take_yes (i := 6) (d := 104) (v := ?_) (fuel := 16) rfl rfl (by kernel_rfl) (by kernel_rfl) (by kernel_rfl) (fun _ _ _ h => h) (by rfl) ?_ (by assumption) ?_
  rotate_left
  · intro w hSw; (try dsimp only at hSw); go_simp; try with_reducible rfl
  simp only [List.setIfInBounds_toArray, List.set_cons_zero, List.set_cons_succ]
  refine take_yes (i := 7) (d := 105) (v := ?_) (fuel := 15) rfl rfl (by kernel_rfl) (by kernel_rfl) (by kernel_rfl) (fun _ _ _ h => h) (by rfl) ?_ (by assumption) ?_
  rotate_left
  · intro w hSw; (try dsimp only at hSw); go_simp; try with_reducible rfl
  simp only [List.setIfInBounds_toArray, List.set_cons_zero, List.set_cons_succ]
  refine take_yes (i := 8) (d := 106) (v := ?_) (fuel := 14) rfl rfl (by kernel_rfl) (by kernel_rfl) (by kernel_rfl) (fun _ _ _ h => h) (by rfl) ?_ (by assumption) ?_
  rotate_left
  · intro w hSw; (try dsimp only at hSw); go_simp; try with_reducible rfl
  simp only [List.setIfInBounds_toArray, List.set_cons_zero, List.set_cons_succ]
  refine take_yes (i := 9) (d := 107) (v := ?_) (fuel := 13) rfl rfl (by kernel_rfl) (by kernel_rfl) (by kernel_rfl) (fun _ _ _ h => h) (by rfl) ?_ (by assumption) ?_
  rotate_left
  · intro w hSw; (try dsimp only at hSw); go_simp; try with_reducible rfl
  simp only [List.setIfInBounds_toArray, List.set_cons_zero, List.set_cons_succ]
  refine take_yes (i := 10) (d := 108) (v := ?_) (fuel := 12) rfl rfl (by kernel_rfl) (by kernel_rfl) (by kernel_rfl) (fun _ _ _ h => h) (by rfl) ?_ (by assumption) ?_
  rotate_left
  · intro w hSw; (try dsimp only at hSw); go_simp; try with_reducible rfl
  simp only [List.setIfInBounds_toArray, List.set_cons_zero, List.set_cons_succ]
  refine wpAnyH_ready (rs := [11]) (by kernel_rfl) (by simp) ?_
  refine AllReadyH.cons rfl (fun K hK => ?_) AllReadyH.nil
  go_simp
  go_at_call 124
  refine (within_any _ _ _ _).mono ?_
  rintro _ _ ⟨rfl, rfl⟩
  rw [unhide HW]
  refine hK.out _ _ ?_ (fun hHeld => ?_)
  · simp [go_sem, cz, cy]
  clear hK K
  refine take_yes (i := 12) (d := 110) (v := ?_) (fuel := 10) rfl rfl (by kernel_rfl) (by kernel_rfl) (by kernel_rfl) (fun _ _ _ h => h) (by rfl) ?_ (by assumption) ?_
  rotate_left
  · intro w hSw; (try dsimp only at hSw); go_simp; try with_reducible rfl
  simp only [List.setIfInBounds_toArray, List.set_cons_zero, List.set_cons_succ]
  refine take_no (i := 13) (d := 111) (fuel := 9) rfl rfl (by kernel_rfl) (by kernel_rfl) (by kernel_rfl) (fun _ _ _ h => h) (by rfl) (by assumption) ?_
  simp only [List.setIfInBounds_toArray, List.set_cons_zero, List.set_cons_succ]
  refine take_no (i := 14) (d := 112) (fuel := 8) rfl rfl (by kernel_rfl) (by kernel_rfl) (by kernel_rfl) (fun _ _ _ h => h) (by rfl) (by assumption) ?_
  simp only [List.setIfInBounds_toArray, List.set_cons_zero, List.set_cons_succ]
  refine take_no (i := 15) (d := 113) (fuel := 7) rfl rfl (by kernel_rfl) (by kernel_rfl) (by kernel_rfl) (fun _ _ _ h => h) (by rfl) (by assumption) ?_
  simp only [List.setIfInBounds_toArray, List.set_cons_zero, List.set_cons_succ]
  refine take_no (i := 16) (d := 114) (fuel := 6) rfl rfl (by kernel_rfl) (by kernel_rfl) (by kernel_rfl) (fun _ _ _ h => h) (by rfl) (by assumption) ?_
  simp only [List.setIfInBounds_toArray, List.set_cons_zero, List.set_cons_succ]
  refine take_no (i := 17) (d := 115) (fuel := 5) rfl rfl (by kernel_rfl) (by kernel_rfl) (by kernel_rfl) (fun _ _ _ h => h) (by rfl) (by assumption) ?_
  simp only [List.setIfInBounds_toArray, List.set_cons_zero, List.set_cons_succ]
  refine take_no (i := 18) (d := 116) (fuel := 4) rfl rfl (by kernel_rfl) (by kernel_rfl) (by kernel_rfl) (fun _ _ _ h => h) (by rfl) (by assumption) ?_
  simp only [List.setIfInBounds_toArray, List.set_cons_zero, List.set_cons_succ]
  refine take_no (i := 19) (d := 117) (fuel := 3) rfl rfl (by kernel_rfl) (by kernel_rfl) (by kernel_rfl) (fun _ _ _ h => h) (by rfl) (by assumption) ?_
  simp only [List.setIfInBounds_toArray, List.set_cons_zero, List.set_cons_succ]
  refine take_yes (i := 20) (d := 118) (v := ?_) (fuel := 2) rfl rfl (by kernel_rfl) (by kernel_rfl) (by kernel_rfl) (fun _ _ _ h => h) (by rfl) ?_ (by assumption) ?_
  rotate_left
  · intro w hSw; (try dsimp only at hSw); go_simp; try with_reducible rfl
  simp only [List.setIfInBounds_toArray, List.set_cons_zero, List.set_cons_succ]
  refine wpAnyH_ready (rs := [21]) (by kernel_rfl) (by simp) ?_
  refine AllReadyH.cons rfl (fun K hK => ?_) AllReadyH.nil
  go_simp
  refine hK.out _ _ ?_ (fun hHeld => ?_)
  · simp [go_sem, cz, cy]
  clear hK K
  refine take_yes (i := 22) (d := 3) (v := ?_) (fuel := 0) rfl rfl (by kernel_rfl) (by kernel_rfl) (by kernel_rfl) (fun _ _ _ h => h) (by rfl) ?_ (by assumption) ?_
  rotate_left
  · intro w hSw; (try dsimp only at hSw); go_simp; try with_reducible rfl
  simp only [List.setIfInBounds_toArray, List.set_cons_zero, List.set_cons_succ]
  refine wpAnyH_done (by kernel_rfl) ?_ _
  go_wp2
  exact bodyPost_ret (v := .tuple #[.agg #[.int .i64 4, .int .i64 x, .int .i64 y, .slice none 0 0], .bool false]) (by simp [results, Tryz.results101, go_sem, r0, r1, r2, r3]) rfl (in_none (by rw [unhide HM, if_neg (by have := unhide HX; omega)]) (res_fr (unhide F1) _ _ _ _).drew)
end Go.Proofs.YtfmbebofllgmoaaGreatDoor
namespace Go.Proofs.YtfmbebofllgmoaaGreatDoor
open Go.RowKit
attribute [local go_sem ↓] Go.wp_at_zero Go.wp_at_succ
set_option maxHeartbeats 2000000 in
set_option maxRecDepth 20000 in
theorem input_kind (b : ByteArray) (h0 : 0 < b.size) (hs : b.size ≤ 40) (w : World) (ns : List Nat) (hv : varsM (b.extract 1 b.size) = some ns) (hk : byteAt b 0 < 1 ∨ 5 < byteAt b 0) : Calls Tryz.prog 101 #[.string b] w (InPost b w) := by
  have hse : (b.extract 1 b.size).size = b.size - 1 := by simp [ByteArray.size_extract]
  have HM : Hid (inpM b = none) := hide (by unfold inpM; rw [hv]; exact inpN_unfit (.inr (.inr (.inr (.inr (.inr (by omega)))))))
  have HV := hide hv
  have HC := hide fun w => varints_any (b.extract 1 b.size) (by omega) w
  rw [byteAt_eq b 0 h0] at hk
  have HK := hide hk
  clear hv hk
  go_enter Tryz.func101, Tryz.ntmps101
  go_upto_region 4 with (go_at_call 122; (refine (unhide HC _).mono ?_; rintro e w1 p1; obtain ⟨f1, hl1, v1, rfl, o1⟩ := vs_some p1 (unhide HV); have F1 := hide f1; obtain ⟨a1, c1, rfl⟩ := ownI_slice o1; rw [zs_len]; obtain ⟨⟨r0, r1, r2, r3⟩, rz⟩ := resB f1; clear p1 f1 o1))
  go_cut [6] (fun u wc => ∃ z : Int, u = .int .i64 z ∧ (z < 1 ∨ 5 < z) ∧ wc = w1)
  case first =>
    go_wp2
    go_meet
    exact ⟨_, rfl, by have := unhide HK; have hlt := UInt8.toNat_lt (b[0]'h0); have hw : wrap64 ((b[0]'h0).toNat : Int) = (b[0]'h0).toNat := (by simp only [wrap64]; omega); omega, rfl⟩
  case rest =>
    obtain ⟨z, rfl, hz, rfl⟩ := hcut
    have h1 : ¬ z = 1 := by omega
    have h2 : ¬ z = 2 := by omega
    have h3 : ¬ z = 3 := by omega
    have h4 : ¬ z = 4 := by omega
    have h5 : ¬ z = 5 := by omega
    clear hz
    go_wp2
    exact bodyPost_ret (v := .tuple #[.agg #[.int .i64 0, .int .i64 0, .int .i64 0, .slice none 0 0], .bool false]) (by simp [results, Tryz.results101, go_sem, r0, r1, r2, r3]) rfl (in_none (unhide HM) (res_fr (unhide F1) _ _ _ _))
end Go.Proofs.YtfmbebofllgmoaaGreatDoor
namespace Go.Proofs.YtfmbebofllgmoaaGreatDoor
open Go.RowKit
attribute [local go_sem ↓] Go.wp_at_zero Go.wp_at_succ

set_option maxHeartbeats 2000000 in
set_option maxRecDepth 20000 in
theorem input_pick_in (b : ByteArray) (h0 : 0 < b.size) (hs : b.size ≤ 40) (w : World) (x y : Nat) (hv : varsM (b.extract 1 b.size) = some [x, y]) (hk : byteAt b 0 = 3) (hx : 2 ≤ x ∧ x ≤ 8) : Calls Tryz.prog 101 #[.string b] w (InPost b w) := by
  have hse : (b.extract 1 b.size).size = b.size - 1 := by simp [ByteArray.size_extract]
  have HM : Hid (inpM b = if 2 ≤ x ∧ x ≤ 8 ∧ y < x then some (x, y, []) else none) := hide (by unfold inpM; rw [hv, hk]; rfl)
  have hb0 : ((b[0]'h0).toNat : Int) = 3 := by rw [← byteAt_eq b 0 h0, hk]; rfl
  have HK := hide hk
  have HV := hide hv
  have HC := hide fun w => varints_any (b.extract 1 b.size) (by omega) w
  clear hv
  go_enter Tryz.func101, Tryz.ntmps101
  go_wp2_with (go_at_call 122; (refine (unhide HC _).mono ?_; rintro e w1 p1; obtain ⟨f1, hl1, v1, rfl, o1⟩ := vs_some p1 (unhide HV); have F1 := hide f1; obtain ⟨g, cap, cur, rfl, hg1, hg2, hg3, hg4, hg5, hg6⟩ := ownI_parts o1 (by simp [zs]); have cz := hg6 0 (by simp [zs]); have cy := hg6 1 (by simp [zs]); simp only [zs, List.map_cons, List.map_nil, List.getD_cons_zero, List.getD_cons_succ, List.length_cons, List.length_nil, Int.ofNat_eq_natCast] at cz cy hg3 ⊢; have hg7 : w.heap.size < g := (by simp at hg1; omega); have hne : w.heap.size ≠ g := (by omega); clear hg1 hg2 hg4 hg5 cur hl1 hk; obtain ⟨⟨r0, r1, r2, r3⟩, rz⟩ := resB f1; clear p1 f1 o1 hg6))
  have hw : (decide ((2 : Int) ≤ x) && decide ((x : Int) ≤ 8)) = true := by simp; omega
  have HW := hide hw
  clear hw
  by_cases hy : (y : Int) < x
  · go_region_held3 (fun w' => w'.cell? ⟨g, 0, none⟩ = some (.int .i64 x) ∧ w'.cell? ⟨g, 1, none⟩ = some (.int .i64 y)) (simp [go_sem, cz, cy]) (first | (go_at_call 124; refine (within_any _ _ _ _).mono ?_; rintro _ _ ⟨rfl, rfl⟩; rw [unhide HW]))
    go_wp2
    exact bodyPost_ret (v := .tuple #[.agg #[.int .i64 3, .int .i64 x, .int .i64 y, .slice none 0 0], .bool true]) (by simp [results, Tryz.results101, go_sem, r0, r1, r2, r3]) rfl (in_some (o := x) (n := y) (fs := []) (by rw [unhide HM, if_pos (by omega)]) (by rw [unhide HK]; rfl) rfl rfl (World.ownsRow_nil _ _ _ _) (res_fr (unhide F1) _ _ _ _).drew)
  · go_region_held3 (fun w' => w'.cell? ⟨g, 0, none⟩ = some (.int .i64 x) ∧ w'.cell? ⟨g, 1, none⟩ = some (.int .i64 y)) (simp [go_sem, cz, cy]) (first | (go_at_call 124; refine (within_any _ _ _ _).mono ?_; rintro _ _ ⟨rfl, rfl⟩; rw [unhide HW]))
    go_wp2
    exact bodyPost_ret (v := .tuple #[.agg #[.int .i64 3, .int .i64 x, .int .i64 y, .slice none 0 0], .bool false]) (by simp [results, Tryz.results101, go_sem, r0, r1, r2, r3]; omega) rfl (in_none (by rw [unhide HM, if_neg (by omega)]) (res_fr (unhide F1) _ _ _ _).drew)


set_option maxHeartbeats 2000000 in
set_option maxRecDepth 20000 in
theorem input_lot_in (b : ByteArray) (h0 : 0 < b.size) (hs : b.size ≤ 40) (w : World) (x y : Nat) (hv : varsM (b.extract 1 b.size) = some [x, y]) (hk : byteAt b 0 = 4) (hx : 1 ≤ x ∧ x ≤ 1000000) : Calls Tryz.prog 101 #[.string b] w (InPost b w) := by
  have hse : (b.extract 1 b.size).size = b.size - 1 := by simp [ByteArray.size_extract]
  have HM : Hid (inpM b = if 1 ≤ x ∧ x ≤ 1000000 ∧ y < x then some (x, y, []) else none) := hide (by unfold inpM; rw [hv, hk]; rfl)
  have hb0 : ((b[0]'h0).toNat : Int) = 4 := by rw [← byteAt_eq b 0 h0, hk]; rfl
  have HK := hide hk
  have HV := hide hv
  have HC := hide fun w => varints_any (b.extract 1 b.size) (by omega) w
  clear hv
  go_enter Tryz.func101, Tryz.ntmps101
  go_wp2_with (go_at_call 122; (refine (unhide HC _).mono ?_; rintro e w1 p1; obtain ⟨f1, hl1, v1, rfl, o1⟩ := vs_some p1 (unhide HV); have F1 := hide f1; obtain ⟨g, cap, cur, rfl, hg1, hg2, hg3, hg4, hg5, hg6⟩ := ownI_parts o1 (by simp [zs]); have cz := hg6 0 (by simp [zs]); have cy := hg6 1 (by simp [zs]); simp only [zs, List.map_cons, List.map_nil, List.getD_cons_zero, List.getD_cons_succ, List.length_cons, List.length_nil, Int.ofNat_eq_natCast] at cz cy hg3 ⊢; have hg7 : w.heap.size < g := (by simp at hg1; omega); have hne : w.heap.size ≠ g := (by omega); clear hg1 hg2 hg4 hg5 cur hl1 hk; obtain ⟨⟨r0, r1, r2, r3⟩, rz⟩ := resB f1; clear p1 f1 o1 hg6))
  have hw : (decide ((1 : Int) ≤ x) && decide ((x : Int) ≤ 1000000)) = true := by simp; omega
  have HW := hide hw
  clear hw
  by_cases hy : (y : Int) < x
  · go_region_held3 (fun w' => w'.cell? ⟨g, 0, none⟩ = some (.int .i64 x) ∧ w'.cell? ⟨g, 1, none⟩ = some (.int .i64 y)) (simp [go_sem, cz, cy]) (first | (go_at_call 124; refine (within_any _ _ _ _).mono ?_; rintro _ _ ⟨rfl, rfl⟩; rw [unhide HW]))
    go_wp2
    exact bodyPost_ret (v := .tuple #[.agg #[.int .i64 4, .int .i64 x, .int .i64 y, .slice none 0 0], .bool true]) (by simp [results, Tryz.results101, go_sem, r0, r1, r2, r3]) rfl (in_some (o := x) (n := y) (fs := []) (by rw [unhide HM, if_pos (by omega)]) (by rw [unhide HK]; rfl) rfl rfl (World.ownsRow_nil _ _ _ _) (res_fr (unhide F1) _ _ _ _).drew)
  · go_region_held3 (fun w' => w'.cell? ⟨g, 0, none⟩ = some (.int .i64 x) ∧ w'.cell? ⟨g, 1, none⟩ = some (.int .i64 y)) (simp [go_sem, cz, cy]) (first | (go_at_call 124; refine (within_any _ _ _ _).mono ?_; rintro _ _ ⟨rfl, rfl⟩; rw [unhide HW]))
    go_wp2
    exact bodyPost_ret (v := .tuple #[.agg #[.int .i64 4, .int .i64 x, .int .i64 y, .slice none 0 0], .bool false]) (by simp [results, Tryz.results101, go_sem, r0, r1, r2, r3]; omega) rfl (in_none (by rw [unhide HM, if_neg (by omega)]) (res_fr (unhide F1) _ _ _ _).drew)
end Go.Proofs.YtfmbebofllgmoaaGreatDoor
namespace Go.Proofs.YtfmbebofllgmoaaGreatDoor
open Go.RowKit
attribute [local go_sem ↓] Go.wp_at_zero Go.wp_at_succ

theorem Fr.nil {w w' : World} {S' : Nat → Prop} (h : Fr (own (.slice none 0 0)) w w' S') : Fr (fun _ => False) w w' (fun _ => False) :=
  ⟨h.os, h.tape, h.output, h.size, fun k hk _ => h.same k hk (fun e => by simp [own, Value.ownBlock] at e), fun _ _ h => h⟩
theorem ownsRow_low {w : World} {B B' e size n : Nat} {v : Value} {xs : List Value} (h : w.ownsRow B e size v n xs) (hB : B' ≤ B) : w.ownsRow B' e size v n xs :=
  ⟨h.1, h.2.imp id fun ⟨g, cap, cur, e1, e2, r⟩ => ⟨g, cap, cur, e1, by omega, r⟩⟩
theorem step_grow_at {ops : Array Oper} {o : Oper} {a : Act} {K : Act → World → Prop} {Q : Exit → Act → World → Prop} {E' : Prop} {w : World} {B t e size bytes d : Nat} (hd : o.dst = some d) (E : Elem t e size bytes) (hs0 : 0 < size) (hs1 : bytes ≤ 100) {v : Value} {n m : Nat} {xs news : List Value} (hgd : o.guard = none) (sv xv : Operand)
    (ho : o.op = .call { callee := .builtin .append, args := #[sv, xv], argTypes := #[t, t] }) {ad : Addr} {cap : Nat} (hs : a.eval sv = v) (hx : a.eval xv = .slice (some ad) m cap) (hrow : w.ownsRow B e size v n xs) (hl : news.length = m * size)
    (hc : ∀ j u, news[j]? = some u → w.cell? (ad.add j) = some u) (h1 : ∀ u ∈ news, u.oneCell' = true) (hm : 0 < m) (hn : n + m ≤ 1000000) (hB : B ≤ w.heap.size)
    (h : ∀ v' w', w'.ownsRow B e size v' (n + m) (xs ++ news) → Fr (own v) w w' (own v') → (∃ a c, v' = .slice a (n + m) c) → K ⟨a.tmps.setIfInBounds d v', a.defers⟩ w') : if Region.wanted o (yielded ops a.tmps) = true then Oper.wp Tryz.prog o a w K Q else E' :=
  step_grow E hs0 hs1 hgd sv xv ho hs hx hrow hl hc h1 hm hn hB (fun v' w' p1 p2 p3 => by rw [hd]; exact h v' w' p1 p2 p3)

set_option maxHeartbeats 2000000 in
set_option maxRecDepth 20000 in
theorem input_batch_no (b : ByteArray) (h0 : 0 < b.size) (hs : b.size ≤ 40) (w : World) (x : Nat) (t : List Nat) (hv : varsM (b.extract 1 b.size) = some (x :: t)) (hk : byteAt b 0 = 2) (ht : 0 < t.length) (hx : x ≠ t.length) : Calls Tryz.prog 101 #[.string b] w (InPost b w) := by
  have hse : (b.extract 1 b.size).size = b.size - 1 := by simp [ByteArray.size_extract]
  have HM : Hid (inpM b = if x = t.length ∧ risL (-1) (zs t) = true then some (0, 0, t) else none) := hide (by unfold inpM; rw [hv, hk]; rfl)
  have hb0 : ((b[0]'h0).toNat : Int) = 2 := by rw [← byteAt_eq b 0 h0, hk]; rfl
  have HV := hide hv
  have HK := hide hk
  have HC := hide fun w => varints_any (b.extract 1 b.size) (by omega) w
  clear hv
  go_enter Tryz.func101, Tryz.ntmps101
  go_wp2_with (go_at_call 122; (refine (unhide HC _).mono ?_; rintro e w1 p1; obtain ⟨f1, hl1, v1, rfl, o1⟩ := vs_some p1 (unhide HV); have F1 := hide f1; obtain ⟨g, cap, cur, rfl, hg1, hg2, hg3, hg4, hg5, hg6⟩ := ownI_parts o1 (by simp [zs]); rw [zs_len] at hg3 ⊢; have hg7 : w.heap.size < g := (by simp at hg1; omega); have hne : w.heap.size ≠ g := (by omega); have HG6 := hide hg6; have hl2 : (x :: t).length = t.length + 1 := rfl; rw [hl2] at hg3 ⊢; have hl1' : t.length ≤ 100 := (by simp at hl1; omega); clear hg1 hg2 hg4 hg5 cur hl1 hk p1 f1 o1 hg6))
  have cz : w1.cell? ⟨g, 0, none⟩ = some (.int .i64 x) := unhide HG6 0 (by simp [zs])
  have hx1 : ((x : Int) == (t.length : Int)) = false := beq_eq_false_iff_ne.2 (by omega)
  have hgz : g < w1.heap.size := by
    obtain ⟨o, ho, _⟩ := cells_of_cell cz; exact (Array.getElem?_eq_some_iff.1 ho).1
  have hc1 : ¬ cap = 1 := by omega
  have hi1 : (1 : Int) ≤ (t.length : Int) + 1 := by omega
  have hwr : IntKind.i64.wrap (t.length : Int) = t.length := by rw [IntKind.wrap_i64]; omega
  have hw1 : w.heap.size ≤ w1.heap.size := by omega
  have HT := hide ht
  have HX := hide hx
  have HL := hide (show t.length ≤ 100 by omega)
  clear ht hx hl2
  refine wp_region_held_drew (S := fun w' => w'.cell? ⟨g, 0, none⟩ = some (.int .i64 x)) (by kernel_rfl) ?_ (fun hHeld => ?_)
  · simp [go_sem, cz]
  refine take_yes (i := 0) (d := 44) (v := ?_) (fuel := 18) rfl rfl (by kernel_rfl) (by kernel_rfl) (by kernel_rfl) (fun _ _ _ h => h) (by rfl) ?_ (by assumption) ?_
  rotate_left
  · intro w hSw; (try dsimp only at hSw); go_simp; try with_reducible rfl
  simp only [List.setIfInBounds_toArray, List.set_cons_zero, List.set_cons_succ]
  refine take_yes (i := 1) (d := 45) (v := ?_) (fuel := 17) rfl rfl (by kernel_rfl) (by kernel_rfl) (by kernel_rfl) (fun _ _ _ h => h) (by rfl) ?_ (by assumption) ?_
  rotate_left
  · intro w hSw; (try dsimp only at hSw); go_simp; try with_reducible rfl
  simp only [List.setIfInBounds_toArray, List.set_cons_zero, List.set_cons_succ]
  refine take_yes (i := 2) (d := 46) (v := ?_) (fuel := 16) rfl rfl (by kernel_rfl) (by kernel_rfl) (by kernel_rfl) (fun _ _ _ h => h) (by rfl) ?_ (by assumption) ?_
  rotate_left
  · intro w hSw; (try dsimp only at hSw); go_simp; try with_reducible rfl
  simp only [List.setIfInBounds_toArray, List.set_cons_zero, List.set_cons_succ]
  refine take_yes (i := 5) (d := 49) (v := ?_) (fuel := 15) rfl rfl (by kernel_rfl) (by kernel_rfl) (by kernel_rfl) (fun _ _ _ h => h) (by rfl) ?_ (by assumption) ?_
  rotate_left
  · intro w hSw; (try dsimp only at hSw); go_simp; try with_reducible rfl
  simp only [List.setIfInBounds_toArray, List.set_cons_zero, List.set_cons_succ]
  refine take_yes (i := 6) (d := 50) (v := ?_) (fuel := 14) rfl rfl (by kernel_rfl) (by kernel_rfl) (by kernel_rfl) (fun _ _ _ h => h) (by rfl) ?_ (by assumption) ?_
  rotate_left
  · intro w hSw; (try dsimp only at hSw); go_simp; try with_reducible rfl
  simp only [List.setIfInBounds_toArray, List.set_cons_zero, List.set_cons_succ]
  refine take_yes (i := 7) (d := 51) (v := ?_) (fuel := 13) rfl rfl (by kernel_rfl) (by kernel_rfl) (by kernel_rfl) (fun _ _ _ h => h) (by rfl) ?_ (by assumption) ?_
  rotate_left
  · intro w hSw; (try dsimp only at hSw); go_simp; try with_reducible rfl
  simp only [List.setIfInBounds_toArray, List.set_cons_zero, List.set_cons_succ]
  refine take_yes (i := 8) (d := 52) (v := ?_) (fuel := 12) rfl rfl (by kernel_rfl) (by kernel_rfl) (by kernel_rfl) (fun _ _ _ h => h) (by rfl) ?_ (by assumption) ?_
  rotate_left
  · intro w hSw; (try dsimp only at hSw); go_simp; try with_reducible rfl
  simp only [List.setIfInBounds_toArray, List.set_cons_zero, List.set_cons_succ]
  refine take_yes (i := 9) (d := 53) (v := ?_) (fuel := 11) rfl rfl (by kernel_rfl) (by kernel_rfl) (by kernel_rfl) (fun _ _ _ h => h) (by rfl) ?_ (by assumption) ?_
  rotate_left
  · intro w hSw; (try dsimp only at hSw); go_simp; try with_reducible rfl
  simp only [List.setIfInBounds_toArray, List.set_cons_zero, List.set_cons_succ]
  refine take_yes (i := 10) (d := 54) (v := ?_) (fuel := 10) rfl rfl (by kernel_rfl) (by kernel_rfl) (by kernel_rfl) (fun _ _ _ h => h) (by rfl) ?_ (by assumption) ?_
  rotate_left
  · intro w hSw; (try dsimp only at hSw); go_simp; try with_reducible rfl
  simp only [List.setIfInBounds_toArray, List.set_cons_zero, List.set_cons_succ]
  refine take_yes (i := 11) (d := 55) (v := ?_) (fuel := 9) rfl rfl (by kernel_rfl) (by kernel_rfl) (by kernel_rfl) (fun _ _ _ h => h) (by rfl) ?_ (by assumption) ?_
  rotate_left
  · intro w hSw; (try dsimp only at hSw); go_simp; try with_reducible rfl
  simp only [List.setIfInBounds_toArray, List.set_cons_zero, List.set_cons_succ]
  refine wpAnyH_ready (rs := [3]) (by kernel_rfl) (by simp) ?_
  refine AllReadyH.cons rfl (fun K hK => ?_) AllReadyH.nil
  refine step_grow_at (d := 47) rfl elemI (by decide) (by decide) (v := .slice none 0 0) (n := 0) (m := t.length) (xs := []) (news := (zs t).map (Value.int .i64)) (B := w1.heap.size) (ad := ⟨g, 1, none⟩) (cap := cap - 1) rfl (.const (.slice none 0 0)) (.tmp 46) rfl rfl rfl (World.ownsRow_nil _ _ _ _) (by simp [zs]) ?_ (by simp [Value.oneCell']) (unhide HT) (by omega) (Nat.le_refl _) ?_
  · intro j u hu
    rw [List.getElem?_map] at hu
    obtain ⟨z, hz, rfl⟩ := Option.map_eq_some_iff.1 hu
    have hj := (List.getElem?_eq_some_iff.1 hz).1
    rw [addr_add, Nat.add_comm 1 j]
    have := unhide HG6 (j + 1) (by simp [zs] at hj ⊢; omega)
    rw [show (zs (x :: t)).getD (j + 1) 0 = z by rw [show zs (x :: t) = (x : Int) :: zs t from rfl, List.getD_cons_succ, List.getD_eq_getElem?_getD, hz]; rfl] at this
    exact this
  intro v2 w2 o2 f2 hsl
  obtain ⟨a2, c2, rfl⟩ := hsl
  have F2 := hide ((unhide F1).drew.trans f2.nil)
  obtain ⟨⟨r0, r1, r2, r3⟩, rz⟩ := resB (unhide F2)
  have hc2 : ∀ j, w2.cell? ⟨g, j, none⟩ = w1.cell? ⟨g, j, none⟩ := fun j => f2.cell g j hgz (fun e => by simp [own, Value.ownBlock] at e)
  have HC2 := hide hc2
  have O2 := hide o2
  have hd2 : w2.cell? ⟨g, 0, none⟩ = some (.int .i64 x) := (hc2 0).trans cz
  clear o2 f2 hc2
  refine hK.out _ _ hd2 (fun hHeld => ?_)
  clear hK K
  simp only [List.setIfInBounds_toArray, List.set_cons_zero, List.set_cons_succ]
  refine take_yes (i := 4) (d := 48) (v := ?_) (fuel := 7) rfl rfl (by kernel_rfl) (by kernel_rfl) (by kernel_rfl) (fun _ _ _ h => h) (by rfl) ?_ (by assumption) ?_
  rotate_left
  · intro w hSw; (try dsimp only at hSw); go_simp; try with_reducible rfl
  simp only [List.setIfInBounds_toArray, List.set_cons_zero, List.set_cons_succ]
  refine take_yes (i := 12) (d := 56) (v := ?_) (fuel := 6) rfl rfl (by kernel_rfl) (by kernel_rfl) (by kernel_rfl) (fun _ _ _ h => h) (by rfl) ?_ (by assumption) ?_
  rotate_left
  · intro w hSw; (try dsimp only at hSw); go_simp; try with_reducible rfl
  simp only [List.setIfInBounds_toArray, List.set_cons_zero, List.set_cons_succ]
  refine take_no (i := 13) (d := 57) (fuel := 5) rfl rfl (by kernel_rfl) (by kernel_rfl) (by kernel_rfl) (fun _ _ _ h => h) (by rfl) (by assumption) ?_
  simp only [List.setIfInBounds_toArray, List.set_cons_zero, List.set_cons_succ]
  refine take_no (i := 14) (d := 58) (fuel := 4) rfl rfl (by kernel_rfl) (by kernel_rfl) (by kernel_rfl) (fun _ _ _ h => h) (by rfl) (by assumption) ?_
  simp only [List.setIfInBounds_toArray, List.set_cons_zero, List.set_cons_succ]
  refine take_no (i := 15) (d := 59) (fuel := 3) rfl rfl (by kernel_rfl) (by kernel_rfl) (by kernel_rfl) (fun _ _ _ h => h) (by rfl) (by assumption) ?_
  simp only [List.setIfInBounds_toArray, List.set_cons_zero, List.set_cons_succ]
  refine take_yes (i := 16) (d := 60) (v := ?_) (fuel := 2) rfl rfl (by kernel_rfl) (by kernel_rfl) (by kernel_rfl) (fun _ _ _ h => h) (by rfl) ?_ (by assumption) ?_
  rotate_left
  · intro w hSw; (try dsimp only at hSw); go_simp; try with_reducible rfl
  simp only [List.setIfInBounds_toArray, List.set_cons_zero, List.set_cons_succ]
  refine wpAnyH_ready (rs := [17]) (by kernel_rfl) (by simp) ?_
  refine AllReadyH.cons rfl (fun K hK => ?_) AllReadyH.nil
  go_simp
  refine hK.out _ _ ?_ (fun hHeld => ?_)
  · simp [go_sem, hd2]
  clear hK K
  refine take_yes (i := 18) (d := 3) (v := ?_) (fuel := 0) rfl rfl (by kernel_rfl) (by kernel_rfl) (by kernel_rfl) (fun _ _ _ h => h) (by rfl) ?_ (by assumption) ?_
  rotate_left
  · intro w hSw; (try dsimp only at hSw); go_simp; try with_reducible rfl
  simp only [List.setIfInBounds_toArray, List.set_cons_zero, List.set_cons_succ]
  refine wpAnyH_done (by kernel_rfl) ?_ _
  go_wp2
  exact bodyPost_ret (v := .tuple #[.agg #[.int .i64 2, .int .i64 0, .int .i64 0, .slice a2 t.length c2], .bool false]) (by simp [results, Tryz.results101, go_sem, r0, r1, r2, r3]) rfl (in_none (by rw [unhide HM, if_neg (fun h => unhide HX h.1)]) (res_fr (unhide F2) _ _ _ _))

set_option maxHeartbeats 2000000 in
set_option maxRecDepth 20000 in
theorem input_batch_yes (b : ByteArray) (h0 : 0 < b.size) (hs : b.size ≤ 40) (w : World) (x : Nat) (t : List Nat) (hv : varsM (b.extract 1 b.size) = some (x :: t)) (hk : byteAt b 0 = 2) (ht : 0 < t.length) (hx : x = t.length) : Calls Tryz.prog 101 #[.string b] w (InPost b w) := by
  have hse : (b.extract 1 b.size).size = b.size - 1 := by simp [ByteArray.size_extract]
  have HM : Hid (inpM b = if x = t.length ∧ risL (-1) (zs t) = true then some (0, 0, t) else none) := hide (by unfold inpM; rw [hv, hk]; rfl)
  have hb0 : ((b[0]'h0).toNat : Int) = 2 := by rw [← byteAt_eq b 0 h0, hk]; rfl
  have HV := hide hv
  have HK := hide hk
  have HC := hide fun w => varints_any (b.extract 1 b.size) (by omega) w
  clear hv
  go_enter Tryz.func101, Tryz.ntmps101
  go_wp2_with (go_at_call 122; (refine (unhide HC _).mono ?_; rintro e w1 p1; obtain ⟨f1, hl1, v1, rfl, o1⟩ := vs_some p1 (unhide HV); have F1 := hide f1; obtain ⟨g, cap, cur, rfl, hg1, hg2, hg3, hg4, hg5, hg6⟩ := ownI_parts o1 (by simp [zs]); rw [zs_len] at hg3 ⊢; have hg7 : w.heap.size < g := (by simp at hg1; omega); have hne : w.heap.size ≠ g := (by omega); have HG6 := hide hg6; have hl2 : (x :: t).length = t.length + 1 := rfl; rw [hl2] at hg3 ⊢; have hl1' : t.length ≤ 100 := (by simp at hl1; omega); clear hg1 hg2 hg4 hg5 cur hl1 hk p1 f1 o1 hg6))
  have cz : w1.cell? ⟨g, 0, none⟩ = some (.int .i64 x) := unhide HG6 0 (by simp [zs])
  have hx1 : ((x : Int) == (t.length : Int)) = true := beq_iff_eq.2 (by omega)
  obtain ⟨r, hr⟩ : ∃ r, risL (-1) (zs t) = r := ⟨_, rfl⟩
  have HR := hide hr
  clear hr
  have hgz : g < w1.heap.size := by
    obtain ⟨o, ho, _⟩ := cells_of_cell cz; exact (Array.getElem?_eq_some_iff.1 ho).1
  have hc1 : ¬ cap = 1 := by omega
  have hi1 : (1 : Int) ≤ (t.length : Int) + 1 := by omega
  have hwr : IntKind.i64.wrap (t.length : Int) = t.length := by rw [IntKind.wrap_i64]; omega
  have hw1 : w.heap.size ≤ w1.heap.size := by omega
  have HT := hide ht
  have HX := hide hx
  have HL := hide (show t.length ≤ 100 by omega)
  clear ht hx hl2
  refine wp_region_held_drew (S := fun w' => w'.cell? ⟨g, 0, none⟩ = some (.int .i64 x)) (by kernel_rfl) ?_ (fun hHeld => ?_)
  · simp [go_sem, cz]
  refine take_yes (i := 0) (d := 44) (v := ?_) (fuel := 18) rfl rfl (by kernel_rfl) (by kernel_rfl) (by kernel_rfl) (fun _ _ _ h => h) (by rfl) ?_ (by assumption) ?_
  rotate_left
  · intro w hSw; (try dsimp only at hSw); go_simp; try with_reducible rfl
  simp only [List.setIfInBounds_toArray, List.set_cons_zero, List.set_cons_succ]
  refine take_yes (i := 1) (d := 45) (v := ?_) (fuel := 17) rfl rfl (by kernel_rfl) (by kernel_rfl) (by kernel_rfl) (fun _ _ _ h => h) (by rfl) ?_ (by assumption) ?_
  rotate_left
  · intro w hSw; (try dsimp only at hSw); go_simp; try with_reducible rfl
  simp only [List.setIfInBounds_toArray, List.set_cons_zero, List.set_cons_succ]
  refine take_yes (i := 2) (d := 46) (v := ?_) (fuel := 16) rfl rfl (by kernel_rfl) (by kernel_rfl) (by kernel_rfl) (fun _ _ _ h => h) (by rfl) ?_ (by assumption) ?_
  rotate_left
  · intro w hSw; (try dsimp only at hSw); go_simp; try with_reducible rfl
  simp only [List.setIfInBounds_toArray, List.set_cons_zero, List.set_cons_succ]
  refine take_yes (i := 5) (d := 49) (v := ?_) (fuel := 15) rfl rfl (by kernel_rfl) (by kernel_rfl) (by kernel_rfl) (fun _ _ _ h => h) (by rfl) ?_ (by assumption) ?_
  rotate_left
  · intro w hSw; (try dsimp only at hSw); go_simp; try with_reducible rfl
  simp only [List.setIfInBounds_toArray, List.set_cons_zero, List.set_cons_succ]
  refine take_yes (i := 6) (d := 50) (v := ?_) (fuel := 14) rfl rfl (by kernel_rfl) (by kernel_rfl) (by kernel_rfl) (fun _ _ _ h => h) (by rfl) ?_ (by assumption) ?_
  rotate_left
  · intro w hSw; (try dsimp only at hSw); go_simp; try with_reducible rfl
  simp only [List.setIfInBounds_toArray, List.set_cons_zero, List.set_cons_succ]
  refine take_yes (i := 7) (d := 51) (v := ?_) (fuel := 13) rfl rfl (by kernel_rfl) (by kernel_rfl) (by kernel_rfl) (fun _ _ _ h => h) (by rfl) ?_ (by assumption) ?_
  rotate_left
  · intro w hSw; (try dsimp only at hSw); go_simp; try with_reducible rfl
  simp only [List.setIfInBounds_toArray, List.set_cons_zero, List.set_cons_succ]
  refine take_yes (i := 8) (d := 52) (v := ?_) (fuel := 12) rfl rfl (by kernel_rfl) (by kernel_rfl) (by kernel_rfl) (fun _ _ _ h => h) (by rfl) ?_ (by assumption) ?_
  rotate_left
  · intro w hSw; (try dsimp only at hSw); go_simp; try with_reducible rfl
  simp only [List.setIfInBounds_toArray, List.set_cons_zero, List.set_cons_succ]
  refine take_yes (i := 9) (d := 53) (v := ?_) (fuel := 11) rfl rfl (by kernel_rfl) (by kernel_rfl) (by kernel_rfl) (fun _ _ _ h => h) (by rfl) ?_ (by assumption) ?_
  rotate_left
  · intro w hSw; (try dsimp only at hSw); go_simp; try with_reducible rfl
  simp only [List.setIfInBounds_toArray, List.set_cons_zero, List.set_cons_succ]
  refine take_yes (i := 10) (d := 54) (v := ?_) (fuel := 10) rfl rfl (by kernel_rfl) (by kernel_rfl) (by kernel_rfl) (fun _ _ _ h => h) (by rfl) ?_ (by assumption) ?_
  rotate_left
  · intro w hSw; (try dsimp only at hSw); go_simp; try with_reducible rfl
  simp only [List.setIfInBounds_toArray, List.set_cons_zero, List.set_cons_succ]
  refine take_yes (i := 11) (d := 55) (v := ?_) (fuel := 9) rfl rfl (by kernel_rfl) (by kernel_rfl) (by kernel_rfl) (fun _ _ _ h => h) (by rfl) ?_ (by assumption) ?_
  rotate_left
  · intro w hSw; (try dsimp only at hSw); go_simp; try with_reducible rfl
  simp only [List.setIfInBounds_toArray, List.set_cons_zero, List.set_cons_succ]
  refine wpAnyH_ready (rs := [3]) (by kernel_rfl) (by simp) ?_
  refine AllReadyH.cons rfl (fun K hK => ?_) AllReadyH.nil
  refine step_grow_at (d := 47) rfl elemI (by decide) (by decide) (v := .slice none 0 0) (n := 0) (m := t.length) (xs := []) (news := (zs t).map (Value.int .i64)) (B := w1.heap.size) (ad := ⟨g, 1, none⟩) (cap := cap - 1) rfl (.const (.slice none 0 0)) (.tmp 46) rfl rfl rfl (World.ownsRow_nil _ _ _ _) (by simp [zs]) ?_ (by simp [Value.oneCell']) (unhide HT) (by omega) (Nat.le_refl _) ?_
  · intro j u hu
    rw [List.getElem?_map] at hu
    obtain ⟨z, hz, rfl⟩ := Option.map_eq_some_iff.1 hu
    have hj := (List.getElem?_eq_some_iff.1 hz).1
    rw [addr_add, Nat.add_comm 1 j]
    have := unhide HG6 (j + 1) (by simp [zs] at hj ⊢; omega)
    rw [show (zs (x :: t)).getD (j + 1) 0 = z by rw [show zs (x :: t) = (x : Int) :: zs t from rfl, List.getD_cons_succ, List.getD_eq_getElem?_getD, hz]; rfl] at this
    exact this
  intro v2 w2 o2 f2 hsl
  obtain ⟨a2, c2, rfl⟩ := hsl
  have F2 := hide ((unhide F1).drew.trans f2.nil)
  obtain ⟨⟨r0, r1, r2, r3⟩, rz⟩ := resB (unhide F2)
  have hc2 : ∀ j, w2.cell? ⟨g, j, none⟩ = w1.cell? ⟨g, j, none⟩ := fun j => f2.cell g j hgz (fun e => by simp [own, Value.ownBlock] at e)
  have HC2 := hide hc2
  have O2 := hide o2
  have hd2 : w2.cell? ⟨g, 0, none⟩ = some (.int .i64 x) := (hc2 0).trans cz
  clear o2 f2 hc2
  refine hK.out _ _ hd2 (fun hHeld => ?_)
  clear hK K
  simp only [List.setIfInBounds_toArray, List.set_cons_zero, List.set_cons_succ]
  refine take_yes (i := 4) (d := 48) (v := ?_) (fuel := 7) rfl rfl (by kernel_rfl) (by kernel_rfl) (by kernel_rfl) (fun _ _ _ h => h) (by rfl) ?_ (by assumption) ?_
  rotate_left
  · intro w hSw; (try dsimp only at hSw); go_simp; try with_reducible rfl
  simp only [List.setIfInBounds_toArray, List.set_cons_zero, List.set_cons_succ]
  refine take_yes (i := 12) (d := 56) (v := ?_) (fuel := 6) rfl rfl (by kernel_rfl) (by kernel_rfl) (by kernel_rfl) (fun _ _ _ h => h) (by rfl) ?_ (by assumption) ?_
  rotate_left
  · intro w hSw; (try dsimp only at hSw); go_simp; try with_reducible rfl
  simp only [List.setIfInBounds_toArray, List.set_cons_zero, List.set_cons_succ]
  have h123 : Calls Tryz.prog 123 #[.slice (some ⟨g, 1, none⟩) t.length (cap - 1)] w2 fun e w' => e = .returned (.bool (risL (-1) (zs t))) ∧ w2 = w' := by
    have h := rising_any (w := w2) (v := .slice (some ⟨g, 1, none⟩) (zs t).length (cap - 1)) (l := zs t) (P := fun _ => True) ⟨_, _, rfl, .inr ⟨g, 1, rfl, trivial, fun i hi => ?_⟩⟩ (by rw [zs_len]; omega)
    · rw [zs_len] at h; exact h.mono fun e w' q => ⟨q.1, q.2.symm⟩
    · rw [unhide HC2, Nat.add_comm 1 i]
      have := unhide HG6 (i + 1) (by simp [zs] at hi ⊢; omega)
      rw [this]
      simp [zs]
  have H123 := hide h123
  clear h123
  refine take_yes (i := 13) (d := 57) (v := ?_) (fuel := 5) rfl rfl (by kernel_rfl) (by kernel_rfl) (by kernel_rfl) (fun _ _ _ h => h) (by rfl) ?_ (by assumption) ?_
  rotate_left
  · intro w hSw; (try dsimp only at hSw); go_simp; try with_reducible rfl
  simp only [List.setIfInBounds_toArray, List.set_cons_zero, List.set_cons_succ]
  refine take_yes (i := 14) (d := 58) (v := ?_) (fuel := 4) rfl rfl (by kernel_rfl) (by kernel_rfl) (by kernel_rfl) (fun _ _ _ h => h) (by rfl) ?_ (by assumption) ?_
  rotate_left
  · intro w hSw; (try dsimp only at hSw); go_simp; try with_reducible rfl
  simp only [List.setIfInBounds_toArray, List.set_cons_zero, List.set_cons_succ]
  refine wpAnyH_ready (rs := [15]) (by kernel_rfl) (by simp) ?_
  refine AllReadyH.cons rfl (fun K hK => ?_) AllReadyH.nil
  go_simp
  go_at_call 123
  refine (unhide H123).mono ?_
  rintro _ _ ⟨rfl, rfl⟩
  rw [unhide HR]
  refine hK.out _ _ hd2 (fun hHeld => ?_)
  clear hK K
  refine take_yes (i := 16) (d := 60) (v := ?_) (fuel := 2) rfl rfl (by kernel_rfl) (by kernel_rfl) (by kernel_rfl) (fun _ _ _ h => h) (by rfl) ?_ (by assumption) ?_
  rotate_left
  · intro w hSw; (try dsimp only at hSw); go_simp; try with_reducible rfl
  simp only [List.setIfInBounds_toArray, List.set_cons_zero, List.set_cons_succ]
  refine wpAnyH_ready (rs := [17]) (by kernel_rfl) (by simp) ?_
  refine AllReadyH.cons rfl (fun K hK => ?_) AllReadyH.nil
  go_simp
  refine hK.out _ _ ?_ (fun hHeld => ?_)
  · simp [go_sem, hd2]
  clear hK K
  refine take_yes (i := 18) (d := 3) (v := ?_) (fuel := 0) rfl rfl (by kernel_rfl) (by kernel_rfl) (by kernel_rfl) (fun _ _ _ h => h) (by rfl) ?_ (by assumption) ?_
  rotate_left
  · intro w hSw; (try dsimp only at hSw); go_simp; try with_reducible rfl
  simp only [List.setIfInBounds_toArray, List.set_cons_zero, List.set_cons_succ]
  refine wpAnyH_done (by kernel_rfl) ?_ _
  go_wp2
  refine bodyPost_ret (v := .tuple #[.agg #[.int .i64 2, .int .i64 0, .int .i64 0, .slice a2 t.length c2], .bool r]) (by simp [results, Tryz.results101, go_sem, r0, r1, r2, r3]) rfl ?_
  have hm := unhide HM
  rw [unhide HR] at hm
  cases r with
  | false => exact in_none (by rw [hm, if_neg (by simp)]) (res_fr (unhide F2) _ _ _ _)
  | true =>
    refine in_some (o := 0) (n := 0) (fs := t) (by rw [hm, if_pos ⟨unhide HX, rfl⟩]) (by rw [unhide HK]; rfl) rfl rfl ?_ (res_fr (unhide F2) _ _ _ _)
    have h2 := unhide O2
    rw [Nat.zero_add, List.nil_append] at h2
    refine ownsRow_of_block (w := w2) (ownsRow_low (show OwnI w2 w1.heap.size (.slice a2 t.length c2) (zs t) by unfold OwnI; rw [zs_len]; exact h2) hw1) (fun q hq => ?_)
    have hq' := (World.ownsRow.lt h2 q hq).1
    have hne' : q ≠ w.heap.size := by omega
    rw [Below.heap_setCell _ _ _ _ hne', Below.heap_setCell _ _ _ _ hne', Below.heap_setCell _ _ _ _ hne', Below.heap_setCell _ _ _ _ hne']

set_option maxHeartbeats 2000000 in
set_option maxRecDepth 20000 in
theorem input_batch_nil (b : ByteArray) (h0 : 0 < b.size) (hs : b.size ≤ 40) (w : World) (x : Nat) (hv : varsM (b.extract 1 b.size) = some [x]) (hk : byteAt b 0 = 2) : Calls Tryz.prog 101 #[.string b] w (InPost b w) := by
  have hse : (b.extract 1 b.size).size = b.size - 1 := by simp [ByteArray.size_extract]
  have HM : Hid (inpM b = if x = 0 then some (0, 0, []) else none) := hide (by
    unfold inpM; rw [hv, hk]
    show (if x = 0 ∧ risL (-1) (zs []) = true then some (0, 0, []) else none) = _
    by_cases e : x = 0
    · rw [if_pos ⟨e, rfl⟩, if_pos e]
    · rw [if_neg (fun h => e h.1), if_neg e])
  have hb0 : ((b[0]'h0).toNat : Int) = 2 := by rw [← byteAt_eq b 0 h0, hk]; rfl
  have HV := hide hv
  have HK := hide hk
  have HC := hide fun w => varints_any (b.extract 1 b.size) (by omega) w
  clear hv
  go_enter Tryz.func101, Tryz.ntmps101
  go_wp2_with (go_at_call 122; (refine (unhide HC _).mono ?_; rintro e w1 p1; obtain ⟨f1, hl1, v1, rfl, o1⟩ := vs_some p1 (unhide HV); have F1 := hide f1; obtain ⟨g, cap, cur, rfl, hg1, hg2, hg3, hg4, hg5, hg6⟩ := ownI_parts o1 (by simp [zs]); have cz := hg6 0 (by simp [zs]); simp only [zs, List.map_cons, List.map_nil, List.getD_cons_zero, List.length_cons, List.length_nil, Int.ofNat_eq_natCast] at cz hg3 ⊢; have hg7 : w.heap.size < g := (by simp at hg1; omega); have hne : w.heap.size ≠ g := (by omega); clear hg1 hg2 hg4 hg5 cur hl1 hk; obtain ⟨⟨r0, r1, r2, r3⟩, rz⟩ := resB f1; clear p1 f1 o1 hg6))
  obtain ⟨ad, had⟩ : ∃ ad : Addr, (if cap = 1 then some (⟨g, 0, none⟩ : Addr) else some ⟨g, 1, none⟩) = some ad := by split <;> exact ⟨_, rfl⟩
  have hw0 : IntKind.i64.wrap 0 = 0 := rfl
  by_cases hx : x = 0
  · subst hx
    have h123 : Calls Tryz.prog 123 #[.slice (some ad) 0 (cap - 1)] w1.drew fun e w' => e = .returned (.bool true) ∧ w1.drew = w' :=
      (rising_any (w := w1.drew) (v := .slice (some ad) 0 (cap - 1)) (l := []) (P := fun _ => True) ⟨_, _, rfl, .inl rfl⟩ (by simp)).mono fun e w' q => ⟨q.1, q.2.symm⟩
    have H123 := hide h123
    clear h123
    refine wp_region_held_drew (S := fun w' => w'.cell? ⟨g, 0, none⟩ = some (.int .i64 (0 : Nat))) (by kernel_rfl) ?_ (fun hHeld => ?_)
    · exact cz
    refine take_yes (i := 0) (d := 44) (v := ?_) (fuel := 18) rfl rfl (by kernel_rfl) (by kernel_rfl) (by kernel_rfl) (fun _ _ _ h => h) (by rfl) ?_ (by assumption) ?_
    rotate_left
    · intro w hSw; (try dsimp only at hSw); go_simp; try with_reducible rfl
    simp only [List.setIfInBounds_toArray, List.set_cons_zero, List.set_cons_succ]
    refine take_yes (i := 1) (d := 45) (v := ?_) (fuel := 17) rfl rfl (by kernel_rfl) (by kernel_rfl) (by kernel_rfl) (fun _ _ _ h => h) (by rfl) ?_ (by assumption) ?_
    rotate_left
    · intro w hSw; (try dsimp only at hSw); go_simp; try with_reducible rfl
    simp only [List.setIfInBounds_toArray, List.set_cons_zero, List.set_cons_succ]
    refine take_yes (i := 2) (d := 46) (v := ?_) (fuel := 16) rfl rfl (by kernel_rfl) (by kernel_rfl) (by kernel_rfl) (fun _ _ _ h => h) (by rfl) ?_ (by assumption) ?_
    rotate_left
    · intro w hSw; (try dsimp only at hSw); go_simp; try with_reducible rfl
    simp only [List.setIfInBounds_toArray, List.set_cons_zero, List.set_cons_succ]
    refine take_yes (i := 5) (d := 49) (v := ?_) (fuel := 15) rfl rfl (by kernel_rfl) (by kernel_rfl) (by kernel_rfl) (fun _ _ _ h => h) (by rfl) ?_ (by assumption) ?_
    rotate_left
    · intro w hSw; (try dsimp only at hSw); go_simp; try with_reducible rfl
    simp only [List.setIfInBounds_toArray, List.set_cons_zero, List.set_cons_succ]
    refine take_yes (i := 6) (d := 50) (v := ?_) (fuel := 14) rfl rfl (by kernel_rfl) (by kernel_rfl) (by kernel_rfl) (fun _ _ _ h => h) (by rfl) ?_ (by assumption) ?_
    rotate_left
    · intro w hSw; (try dsimp only at hSw); go_simp; try with_reducible rfl
    simp only [List.setIfInBounds_toArray, List.set_cons_zero, List.set_cons_succ]
    refine take_yes (i := 7) (d := 51) (v := ?_) (fuel := 13) rfl rfl (by kernel_rfl) (by kernel_rfl) (by kernel_rfl) (fun _ _ _ h => h) (by rfl) ?_ (by assumption) ?_
    rotate_left
    · intro w hSw; (try dsimp only at hSw); go_simp; try with_reducible rfl
    simp only [List.setIfInBounds_toArray, List.set_cons_zero, List.set_cons_succ]
    refine take_yes (i := 8) (d := 52) (v := ?_) (fuel := 12) rfl rfl (by kernel_rfl) (by kernel_rfl) (by kernel_rfl) (fun _ _ _ h => h) (by rfl) ?_ (by assumption) ?_
    rotate_left
    · intro w hSw; (try dsimp only at hSw); go_simp; try with_reducible rfl
    simp only [List.setIfInBounds_toArray, List.set_cons_zero, List.set_cons_succ]
    refine take_yes (i := 9) (d := 53) (v := ?_) (fuel := 11) rfl rfl (by kernel_rfl) (by kernel_rfl) (by kernel_rfl) (fun _ _ _ h => h) (by rfl) ?_ (by assumption) ?_
    rotate_left
    · intro w hSw; (try dsimp only at hSw); go_simp; try with_reducible rfl
    simp only [List.setIfInBounds_toArray, List.set_cons_zero, List.set_cons_succ]
    refine take_yes (i := 10) (d := 54) (v := ?_) (fuel := 10) rfl rfl (by kernel_rfl) (by kernel_rfl) (by kernel_rfl) (fun _ _ _ h => h) (by rfl) ?_ (by assumption) ?_
    rotate_left
    · intro w hSw; (try dsimp only at hSw); go_simp; try with_reducible rfl
    simp only [List.setIfInBounds_toArray, List.set_cons_zero, List.set_cons_succ]
    refine take_yes (i := 11) (d := 55) (v := ?_) (fuel := 9) rfl rfl (by kernel_rfl) (by kernel_rfl) (by kernel_rfl) (fun _ _ _ h => h) (by rfl) ?_ (by assumption) ?_
    rotate_left
    · intro w hSw; (try dsimp only at hSw); go_simp; try with_reducible rfl
    simp only [List.setIfInBounds_toArray, List.set_cons_zero, List.set_cons_succ]
    refine wpAnyH_ready (rs := [3]) (by kernel_rfl) (by simp) ?_
    refine AllReadyH.cons rfl (fun K hK => ?_) AllReadyH.nil
    go_simp
    refine hK.out _ _ hHeld (fun hHeld => ?_)
    clear hK K
    refine take_yes (i := 4) (d := 48) (v := ?_) (fuel := 7) rfl rfl (by kernel_rfl) (by kernel_rfl) (by kernel_rfl) (fun _ _ _ h => h) (by rfl) ?_ (by assumption) ?_
    rotate_left
    · intro w hSw; (try dsimp only at hSw); go_simp; try with_reducible rfl
    simp only [List.setIfInBounds_toArray, List.set_cons_zero, List.set_cons_succ]
    refine take_yes (i := 12) (d := 56) (v := ?_) (fuel := 6) rfl rfl (by kernel_rfl) (by kernel_rfl) (by kernel_rfl) (fun _ _ _ h => h) (by rfl) ?_ (by assumption) ?_
    rotate_left
    · intro w hSw; (try dsimp only at hSw); go_simp; try with_reducible rfl
    simp only [List.setIfInBounds_toArray, List.set_cons_zero, List.set_cons_succ]
    refine take_yes (i := 13) (d := 57) (v := ?_) (fuel := 5) rfl rfl (by kernel_rfl) (by kernel_rfl) (by kernel_rfl) (fun _ _ _ h => h) (by rfl) ?_ (by assumption) ?_
    rotate_left
    · intro w hSw; (try dsimp only at hSw); go_simp; try with_reducible rfl
    simp only [List.setIfInBounds_toArray, List.set_cons_zero, List.set_cons_succ]
    refine take_yes (i := 14) (d := 58) (v := ?_) (fuel := 4) rfl rfl (by kernel_rfl) (by kernel_rfl) (by kernel_rfl) (fun _ _ _ h => h) (by rfl) ?_ (by assumption) ?_
    rotate_left
    · intro w hSw; (try dsimp only at hSw); go_simp; try with_reducible rfl
    simp only [List.setIfInBounds_toArray, List.set_cons_zero, List.set_cons_succ]
    refine wpAnyH_ready (rs := [15]) (by kernel_rfl) (by simp) ?_
    refine AllReadyH.cons rfl (fun K hK => ?_) AllReadyH.nil
    go_simp
    go_at_call 123
    refine (unhide H123).mono ?_
    rintro _ _ ⟨rfl, rfl⟩
    refine hK.out _ _ hHeld (fun hHeld => ?_)
    clear hK K
    refine take_yes (i := 16) (d := 60) (v := ?_) (fuel := 2) rfl rfl (by kernel_rfl) (by kernel_rfl) (by kernel_rfl) (fun _ _ _ h => h) (by rfl) ?_ (by assumption) ?_
    rotate_left
    · intro w hSw; (try dsimp only at hSw); go_simp; try with_reducible rfl
    simp only [List.setIfInBounds_toArray, List.set_cons_zero, List.set_cons_succ]
    refine wpAnyH_ready (rs := [17]) (by kernel_rfl) (by simp) ?_
    refine AllReadyH.cons rfl (fun K hK => ?_) AllReadyH.nil
    go_simp
    refine hK.out _ _ ?_ (fun hHeld => ?_)
    · simp [go_sem, cz]
    clear hK K
    refine take_yes (i := 18) (d := 3) (v := ?_) (fuel := 0) rfl rfl (by kernel_rfl) (by kernel_rfl) (by kernel_rfl) (fun _ _ _ h => h) (by rfl) ?_ (by assumption) ?_
    rotate_left
    · intro w hSw; (try dsimp only at hSw); go_simp; try with_reducible rfl
    simp only [List.setIfInBounds_toArray, List.set_cons_zero, List.set_cons_succ]
    refine wpAnyH_done (by kernel_rfl) ?_ _
    go_wp2
    exact bodyPost_ret (v := .tuple #[.agg #[.int .i64 2, .int .i64 0, .int .i64 0, .slice none 0 0], .bool true]) (by simp [results, Tryz.results101, go_sem, r0, r1, r2, r3]) rfl (in_some (o := 0) (n := 0) (fs := []) (by rw [unhide HM]; exact if_pos trivial) (by rw [unhide HK]; rfl) rfl rfl (World.ownsRow_nil _ _ _ _) (res_fr (unhide F1) _ _ _ _).drew)
  · have hx1 : ((x : Int) == 0) = false := beq_eq_false_iff_ne.2 (by omega)
    have HX := hide hx
    refine wp_region_held_drew (S := fun w' => w'.cell? ⟨g, 0, none⟩ = some (.int .i64 x)) (by kernel_rfl) ?_ (fun hHeld => ?_)
    · simp [go_sem, cz]
    refine take_yes (i := 0) (d := 44) (v := ?_) (fuel := 18) rfl rfl (by kernel_rfl) (by kernel_rfl) (by kernel_rfl) (fun _ _ _ h => h) (by rfl) ?_ (by assumption) ?_
    rotate_left
    · intro w hSw; (try dsimp only at hSw); go_simp; try with_reducible rfl
    simp only [List.setIfInBounds_toArray, List.set_cons_zero, List.set_cons_succ]
    refine take_yes (i := 1) (d := 45) (v := ?_) (fuel := 17) rfl rfl (by kernel_rfl) (by kernel_rfl) (by kernel_rfl) (fun _ _ _ h => h) (by rfl) ?_ (by assumption) ?_
    rotate_left
    · intro w hSw; (try dsimp only at hSw); go_simp; try with_reducible rfl
    simp only [List.setIfInBounds_toArray, List.set_cons_zero, List.set_cons_succ]
    refine take_yes (i := 2) (d := 46) (v := ?_) (fuel := 16) rfl rfl (by kernel_rfl) (by kernel_rfl) (by kernel_rfl) (fun _ _ _ h => h) (by rfl) ?_ (by assumption) ?_
    rotate_left
    · intro w hSw; (try dsimp only at hSw); go_simp; try with_reducible rfl
    simp only [List.setIfInBounds_toArray, List.set_cons_zero, List.set_cons_succ]
    refine take_yes (i := 5) (d := 49) (v := ?_) (fuel := 15) rfl rfl (by kernel_rfl) (by kernel_rfl) (by kernel_rfl) (fun _ _ _ h => h) (by rfl) ?_ (by assumption) ?_
    rotate_left
    · intro w hSw; (try dsimp only at hSw); go_simp; try with_reducible rfl
    simp only [List.setIfInBounds_toArray, List.set_cons_zero, List.set_cons_succ]
    refine take_yes (i := 6) (d := 50) (v := ?_) (fuel := 14) rfl rfl (by kernel_rfl) (by kernel_rfl) (by kernel_rfl) (fun _ _ _ h => h) (by rfl) ?_ (by assumption) ?_
    rotate_left
    · intro w hSw; (try dsimp only at hSw); go_simp; try with_reducible rfl
    simp only [List.setIfInBounds_toArray, List.set_cons_zero, List.set_cons_succ]
    refine take_yes (i := 7) (d := 51) (v := ?_) (fuel := 13) rfl rfl (by kernel_rfl) (by kernel_rfl) (by kernel_rfl) (fun _ _ _ h => h) (by rfl) ?_ (by assumption) ?_
    rotate_left
    · intro w hSw; (try dsimp only at hSw); go_simp; try with_reducible rfl
    simp only [List.setIfInBounds_toArray, List.set_cons_zero, List.set_cons_succ]
    refine take_yes (i := 8) (d := 52) (v := ?_) (fuel := 12) rfl rfl (by kernel_rfl) (by kernel_rfl) (by kernel_rfl) (fun _ _ _ h => h) (by rfl) ?_ (by assumption) ?_
    rotate_left
    · intro w hSw; (try dsimp only at hSw); go_simp; try with_reducible rfl
    simp only [List.setIfInBounds_toArray, List.set_cons_zero, List.set_cons_succ]
    refine take_yes (i := 9) (d := 53) (v := ?_) (fuel := 11) rfl rfl (by kernel_rfl) (by kernel_rfl) (by kernel_rfl) (fun _ _ _ h => h) (by rfl) ?_ (by assumption) ?_
    rotate_left
    · intro w hSw; (try dsimp only at hSw); go_simp; try with_reducible rfl
    simp only [List.setIfInBounds_toArray, List.set_cons_zero, List.set_cons_succ]
    refine take_yes (i := 10) (d := 54) (v := ?_) (fuel := 10) rfl rfl (by kernel_rfl) (by kernel_rfl) (by kernel_rfl) (fun _ _ _ h => h) (by rfl) ?_ (by assumption) ?_
    rotate_left
    · intro w hSw; (try dsimp only at hSw); go_simp; try with_reducible rfl
    simp only [List.setIfInBounds_toArray, List.set_cons_zero, List.set_cons_succ]
    refine take_yes (i := 11) (d := 55) (v := ?_) (fuel := 9) rfl rfl (by kernel_rfl) (by kernel_rfl) (by kernel_rfl) (fun _ _ _ h => h) (by rfl) ?_ (by assumption) ?_
    rotate_left
    · intro w hSw; (try dsimp only at hSw); go_simp; try with_reducible rfl
    simp only [List.setIfInBounds_toArray, List.set_cons_zero, List.set_cons_succ]
    refine wpAnyH_ready (rs := [3]) (by kernel_rfl) (by simp) ?_
    refine AllReadyH.cons rfl (fun K hK => ?_) AllReadyH.nil
    go_simp
    refine hK.out _ _ hHeld (fun hHeld => ?_)
    clear hK K
    refine take_yes (i := 4) (d := 48) (v := ?_) (fuel := 7) rfl rfl (by kernel_rfl) (by kernel_rfl) (by kernel_rfl) (fun _ _ _ h => h) (by rfl) ?_ (by assumption) ?_
    rotate_left
    · intro w hSw; (try dsimp only at hSw); go_simp; try with_reducible rfl
    simp only [List.setIfInBounds_toArray, List.set_cons_zero, List.set_cons_succ]
    refine take_yes (i := 12) (d := 56) (v := ?_) (fuel := 6) rfl rfl (by kernel_rfl) (by kernel_rfl) (by kernel_rfl) (fun _ _ _ h => h) (by rfl) ?_ (by assumption) ?_
    rotate_left
    · intro w hSw; (try dsimp only at hSw); go_simp; try with_reducible rfl
    simp only [List.setIfInBounds_toArray, List.set_cons_zero, List.set_cons_succ]
    refine take_no (i := 13) (d := 57) (fuel := 5) rfl rfl (by kernel_rfl) (by kernel_rfl) (by kernel_rfl) (fun _ _ _ h => h) (by rfl) (by assumption) ?_
    simp only [List.setIfInBounds_toArray, List.set_cons_zero, List.set_cons_succ]
    refine take_no (i := 14) (d := 58) (fuel := 4) rfl rfl (by kernel_rfl) (by kernel_rfl) (by kernel_rfl) (fun _ _ _ h => h) (by rfl) (by assumption) ?_
    simp only [List.setIfInBounds_toArray, List.set_cons_zero, List.set_cons_succ]
    refine take_no (i := 15) (d := 59) (fuel := 3) rfl rfl (by kernel_rfl) (by kernel_rfl) (by kernel_rfl) (fun _ _ _ h => h) (by rfl) (by assumption) ?_
    simp only [List.setIfInBounds_toArray, List.set_cons_zero, List.set_cons_succ]
    refine take_yes (i := 16) (d := 60) (v := ?_) (fuel := 2) rfl rfl (by kernel_rfl) (by kernel_rfl) (by kernel_rfl) (fun _ _ _ h => h) (by rfl) ?_ (by assumption) ?_
    rotate_left
    · intro w hSw; (try dsimp only at hSw); go_simp; try with_reducible rfl
    simp only [List.setIfInBounds_toArray, List.set_cons_zero, List.set_cons_succ]
    refine wpAnyH_ready (rs := [17]) (by kernel_rfl) (by simp) ?_
    refine AllReadyH.cons rfl (fun K hK => ?_) AllReadyH.nil
    go_simp
    refine hK.out _ _ ?_ (fun hHeld => ?_)
    · simp [go_sem, cz]
    clear hK K
    refine take_yes (i := 18) (d := 3) (v := ?_) (fuel := 0) rfl rfl (by kernel_rfl) (by kernel_rfl) (by kernel_rfl) (fun _ _ _ h => h) (by rfl) ?_ (by assumption) ?_
    rotate_left
    · intro w hSw; (try dsimp only at hSw); go_simp; try with_reducible rfl
    simp only [List.setIfInBounds_toArray, List.set_cons_zero, List.set_cons_succ]
    refine wpAnyH_done (by kernel_rfl) ?_ _
    go_wp2
    exact bodyPost_ret (v := .tuple #[.agg #[.int .i64 2, .int .i64 0, .int .i64 0, .slice none 0 0], .bool false]) (by simp [results, Tryz.results101, go_sem, r0, r1, r2, r3]) rfl (in_none (by rw [unhide HM, if_neg (unhide HX)]) (res_fr (unhide F1) _ _ _ _).drew)

/-- The reader's input, at every body of 1 to 40 bytes. -/
theorem input_any (b : ByteArray) (h0 : 0 < b.size) (hs : b.size ≤ 40) (w : World) : Calls Tryz.prog 101 #[.string b] w (InPost b w) := by
  cases hv : varsM (b.extract 1 b.size) with
  | none => exact input_bad b h0 hs w hv
  | some ns =>
    by_cases hk : byteAt b 0 < 1 ∨ 5 < byteAt b 0
    · exact input_kind b h0 hs w ns hv hk
    by_cases hu : Unfit (byteAt b 0) ns.length
    · exact input_unfit b h0 hs w ns hv hu (by omega)
    have hk' : byteAt b 0 = 1 ∨ byteAt b 0 = 2 ∨ byteAt b 0 = 3 ∨ byteAt b 0 = 4 ∨ byteAt b 0 = 5 := by omega
    unfold Unfit at hu
    rcases hk' with e | e | e | e | e
    · match ns, hv, hu with
      | [x], hv, _ => exact input_clock b h0 hs w x hv e
      | [], _, hu => exact absurd (.inl ⟨e, by simp⟩) hu
      | _ :: _ :: _, _, hu => exact absurd (.inl ⟨e, by simp⟩) hu
    · match ns, hv, hu with
      | [x], hv, _ => exact input_batch_nil b h0 hs w x hv e
      | x :: y :: r, hv, _ =>
        by_cases hx : x = (y :: r).length
        · exact input_batch_yes b h0 hs w x (y :: r) hv e (by simp) hx
        · exact input_batch_no b h0 hs w x (y :: r) hv e (by simp) hx
      | [], _, hu => exact absurd (.inr (.inl ⟨e, by simp⟩)) hu
    · match ns, hv, hu with
      | [x, y], hv, _ =>
        by_cases hx : 2 ≤ x ∧ x ≤ 8
        · exact input_pick_in b h0 hs w x y hv e hx
        · exact input_pick_out b h0 hs w x y hv e hx
      | [], _, hu => exact absurd (.inr (.inr (.inl ⟨e, by simp⟩))) hu
      | [_], _, hu => exact absurd (.inr (.inr (.inl ⟨e, by simp⟩))) hu
      | _ :: _ :: _ :: _, _, hu => exact absurd (.inr (.inr (.inl ⟨e, by simp⟩))) hu
    · match ns, hv, hu with
      | [x, y], hv, _ =>
        by_cases hx : 1 ≤ x ∧ x ≤ 1000000
        · exact input_lot_in b h0 hs w x y hv e hx
        · exact input_lot_out b h0 hs w x y hv e hx
      | [], _, hu => exact absurd (.inr (.inr (.inr (.inl ⟨e, by simp⟩)))) hu
      | [_], _, hu => exact absurd (.inr (.inr (.inr (.inl ⟨e, by simp⟩)))) hu
      | _ :: _ :: _ :: _, _, hu => exact absurd (.inr (.inr (.inr (.inl ⟨e, by simp⟩)))) hu
    · match ns, hv, hu with
      | [x], hv, _ => exact input_end b h0 hs w x hv e
      | [], _, hu => exact absurd (.inr (.inr (.inr (.inr (.inl ⟨e, by simp⟩))))) hu
      | _ :: _ :: _, _, hu => exact absurd (.inr (.inr (.inr (.inr (.inl ⟨e, by simp⟩))))) hu
end Go.Proofs.YtfmbebofllgmoaaGreatDoor
namespace Go.Proofs.YtfmbebofllgmoaaGreatDoor
open Go.RowKit

theorem bs_append (a b : ByteArray) : bs (a ++ b) = bs a ++ bs b := by simp [bs]
theorem bs_push (a : ByteArray) (x : UInt8) : bs (a.push x) = bs a ++ [x.toNat] := by simp [bs]
theorem bs_inj {a b : ByteArray} (h : bs a = bs b) : a = b := by
  obtain ⟨⟨a⟩⟩ := a
  obtain ⟨⟨b⟩⟩ := b
  have h' : a.map UInt8.toNat = b.map UInt8.toNat := h
  have : a = b := (List.map_inj_right (fun x y hxy => UInt8.toNat_inj.1 hxy)).1 h'
  rw [this]
theorem bs_lt (a : ByteArray) : ∀ x, x ∈ bs a → x < 256 := by
  intro x hx
  obtain ⟨u, _, rfl⟩ := List.mem_map.1 hx
  exact UInt8.toNat_lt u
theorem bs_empty : bs ByteArray.empty = [] := rfl
theorem bs_sub (s : ByteArray) (i j : Nat) : bs (s.extract i j) = ((bs s).take j).drop i := by
  simp only [bs, ByteArray.data_extract, Array.toList_extract, List.map_drop, List.map_take, List.extract_eq_drop_take']
theorem byteAt_bs (s : ByteArray) (i : Nat) : byteAt s i = (bs s).getD i 0 := by
  simp only [byteAt, bs, List.getD_eq_getElem?_getD, List.getElem?_map]
  cases s.data.toList[i]? <;> rfl

/-- The bytes of a varint, as numbers. -/
def vb (n : Nat) : List Nat := bs (varS n)
theorem vb_small (n : Nat) (h : n < 128) : vb n = [n] := by
  unfold vb; rw [varS_eq, if_pos h, bs_push, bs_empty, List.nil_append, UInt8.toNat_ofNat']
  congr 1; omega
theorem vb_great (n : Nat) (h : ¬ n < 128) : vb n = (n % 128 + 128) :: vb (n / 128) := by
  unfold vb; rw [varS_eq, if_neg h, bs_append, bs_push, bs_empty, List.nil_append, UInt8.toNat_ofNat', List.singleton_append]
  congr 1; omega
theorem vb_pos (n : Nat) : 0 < (vb n).length := by
  by_cases h : n < 128
  · rw [vb_small n h]; simp
  · rw [vb_great n h]; simp

theorem vGo_vb : ∀ (f k acc n : Nat) (t : List Nat), n < 128 ^ f → 0 < f → (n ≠ 0 ∨ k = 0) → vGo f k acc (vb n ++ t) = (acc + n * 128 ^ k, k + (vb n).length)
  | 0, _, _, _, _, _, h, _ => absurd h (Nat.lt_irrefl 0)
  | f + 1, k, acc, n, t, hn, _, h0 => by
    by_cases h : n < 128
    · rw [vb_small n h]
      rw [List.singleton_append, vGo_done f k acc n t h h0]
      rfl
    · rw [vb_great n h, List.cons_append, vGo_more _ _ _ _ _ (by omega)]
      have h1 : n / 128 < 128 ^ f := by rw [Nat.div_lt_iff_lt_mul (by omega)]; rwa [Nat.pow_succ] at hn
      have hf : 0 < f := by
        cases f with
        | zero => simp at h1; omega
        | succ f => omega
      rw [vGo_vb f (k + 1) _ (n / 128) t h1 hf (.inl (by omega))]
      have e : (n % 128 + 128) % 128 = n % 128 := by omega
      rw [e, List.length_cons]
      have e2 : acc + n % 128 * 128 ^ k + n / 128 * 128 ^ (k + 1) = acc + n * 128 ^ k := by
        rw [Nat.pow_succ, Nat.add_assoc, Nat.mul_comm (128 ^ k) 128, ← Nat.mul_assoc, ← Nat.add_mul]
        congr 2; omega
      rw [e2]
      congr 1; omega

theorem vGo_inv : ∀ (f k acc : Nat) (l : List Nat), (∀ x, x ∈ l → x < 256) → (vGo f k acc l).2 ≠ 0 → ∃ n t, l = vb n ++ t ∧ vGo f k acc l = (acc + n * 128 ^ k, k + (vb n).length) ∧ n < 128 ^ f ∧ (n ≠ 0 ∨ k = 0)
  | 0, _, _, _, _, h => absurd rfl h
  | _ + 1, _, _, [], _, h => absurd rfl h
  | f + 1, k, acc, x :: t, hl, h => by
    by_cases hx : 128 ≤ x
    · rw [vGo_more _ _ _ _ _ hx] at h ⊢
      obtain ⟨n, t', e, hv, hn, h0⟩ := vGo_inv f (k + 1) _ t (fun y hy => hl y (List.mem_cons_of_mem _ hy)) h
      have h256 := hl x (List.mem_cons_self ..)
      have hn0 : n ≠ 0 := by rcases h0 with h0 | h0
                             · exact h0
                             · omega
      have hg : ¬ (x % 128 + n * 128) < 128 := by omega
      have hvb : vb (x % 128 + n * 128) = x :: vb n := by
        rw [vb_great _ hg]
        congr 1
        · omega
        · congr 1; omega
      refine ⟨x % 128 + n * 128, t', ?_, ?_, ?_, .inl (by omega)⟩
      · rw [hvb, e]; rfl
      · rw [hv, hvb, List.length_cons]
        have e2 : acc + x % 128 * 128 ^ k + n * 128 ^ (k + 1) = acc + (x % 128 + n * 128) * 128 ^ k := by
          rw [Nat.pow_succ, Nat.add_assoc, Nat.mul_comm (128 ^ k) 128, ← Nat.mul_assoc, ← Nat.add_mul]
        rw [e2]
        congr 1; omega
      · rw [Nat.pow_succ]; omega
    · by_cases h0 : x = 0 ∧ 0 < k
      · rw [h0.1, vGo_zero _ _ _ _ h0.2] at h; exact absurd rfl h
      · have hx' : x < 128 := by omega
        rw [vGo_done f k acc x t hx' (by omega)]
        refine ⟨x, t, by rw [vb_small x hx']; rfl, by rw [vb_small x hx']; rfl, ?_, by omega⟩
        rw [Nat.pow_succ]
        have := Nat.one_le_pow f 128 (by omega)
        omega

/-- The bytes of numbers, one varint behind the other. -/
def vbs (ns : List Nat) : List Nat := ns.flatMap vb
theorem vbs_cons (n : Nat) (r : List Nat) : vbs (n :: r) = vb n ++ vbs r := rfl
theorem vbs_nil : vbs [] = [] := rfl
theorem vb_ne (n : Nat) (t : List Nat) : vb n ++ t ≠ [] := by
  intro h; have := vb_pos n; have h2 := congrArg List.length h; rw [List.length_append, List.length_nil] at h2; omega
/-- A row of varints is read, and nothing else. -/
theorem varsL_iff : ∀ (f : Nat) (l : List Nat) (ns : List Nat), l.length ≤ f → (∀ x, x ∈ l → x < 256) → (varsL f l = some ns ↔ l = vbs ns ∧ ∀ n, n ∈ ns → n < 128 ^ 6)
  | 0, l, ns, hf, _ => by
    have : l = [] := List.eq_nil_of_length_eq_zero (by omega)
    subst this
    simp only [varsL, if_true]
    constructor
    · intro h; injection h with h; subst h; exact ⟨rfl, fun _ h => absurd h (by simp)⟩
    · rintro ⟨h, _⟩
      cases ns with
      | nil => rfl
      | cons n r => exact absurd h.symm (vb_ne n _)
  | f + 1, l, ns, hf, hb => by
    by_cases hl : l = []
    · subst hl
      simp only [varsL, if_true]
      constructor
      · intro h; injection h with h; subst h; exact ⟨rfl, fun _ h => absurd h (by simp)⟩
      · rintro ⟨h, _⟩
        cases ns with
        | nil => rfl
        | cons n r => exact absurd h.symm (vb_ne n _)
    · simp only [varsL, if_neg hl]
      by_cases h0 : (vGo 6 0 0 l).2 = 0
      · rw [if_pos h0]
        constructor
        · intro h; cases h
        · rintro ⟨h, hn⟩
          cases ns with
          | nil => exact absurd h hl
          | cons n r =>
            rw [h, vbs_cons, vGo_vb 6 0 0 n _ (hn n (List.mem_cons_self ..)) (by omega) (.inr rfl)] at h0
            have := vb_pos n
            exact absurd h0 (by show 0 + (vb n).length ≠ 0; omega)
      · rw [if_neg h0]
        obtain ⟨n, t, e, hv, hn, _⟩ := vGo_inv 6 0 0 l hb h0
        have e1 : (vGo 6 0 0 l).1 = n := by rw [hv]; simp
        have e2 : (vGo 6 0 0 l).2 = (vb n).length := by rw [hv]; simp
        have e3 : l.drop (vb n).length = t := by rw [e, List.drop_left]
        rw [e1, e2, e3]
        have ht : t.length ≤ f := by have := vb_pos n; rw [e, List.length_append] at hf; omega
        have hbt : ∀ x, x ∈ t → x < 256 := fun x hx => hb x (by rw [e]; exact List.mem_append_right _ hx)
        constructor
        · intro h
          obtain ⟨r, hr, rfl⟩ := Option.map_eq_some_iff.1 h
          obtain ⟨h1, h2⟩ := (varsL_iff f t r ht hbt).1 hr
          refine ⟨by rw [vbs_cons, ← h1, e], ?_⟩
          intro m hm
          rcases List.mem_cons.1 hm with rfl | hm
          · exact hn
          · exact h2 m hm
        · rintro ⟨h, hns⟩
          cases ns with
          | nil => exact absurd h hl
          | cons m r =>
            rw [vbs_cons] at h
            have hv2 := vGo_vb 6 0 0 m (vbs r) (hns m (List.mem_cons_self ..)) (by omega) (.inr rfl)
            rw [← h, hv] at hv2
            injection hv2 with g1 g2
            have hnm : n = m := by simp at g1; exact g1
            subst hnm
            have htr : t = vbs r := by
              rw [e] at h
              exact List.append_cancel_left h
            rw [(varsL_iff f t r ht hbt).2 ⟨htr, fun x hx => hns x (List.mem_cons_of_mem _ hx)⟩]
            rfl

/-- An input of a log: kind, of, n, files. -/
abbrev Inp := Nat × Nat × Nat × List Nat
/-- What a record may tell. -/
def Fit (x : Inp) : Prop :=
  (x.1 = 1 ∧ x.2.1 = 0 ∧ x.2.2.1 ≤ 1099511627776 ∧ x.2.2.2 = []) ∨ (x.1 = 2 ∧ x.2.1 = 0 ∧ x.2.2.1 = 0 ∧ risL (-1) (zs x.2.2.2) = true) ∨
  (x.1 = 3 ∧ 2 ≤ x.2.1 ∧ x.2.1 ≤ 8 ∧ x.2.2.1 < x.2.1 ∧ x.2.2.2 = []) ∨ (x.1 = 4 ∧ 1 ≤ x.2.1 ∧ x.2.1 ≤ 1000000 ∧ x.2.2.1 < x.2.1 ∧ x.2.2.2 = []) ∨ (x.1 = 5 ∧ x.2.1 = 0 ∧ 1 ≤ x.2.2.1 ∧ x.2.2.1 ≤ 5 ∧ x.2.2.2 = [])
/-- Its numbers. -/
def nums (x : Inp) : List Nat := if x.1 = 2 then x.2.2.2.length :: x.2.2.2 else if x.1 = 3 ∨ x.1 = 4 then [x.2.1, x.2.2.1] else [x.2.2.1]
theorem inpN_iff (k : Nat) (ns : List Nat) (o n : Nat) (fs : List Nat) : inpN k ns = some (o, n, fs) ↔ Fit (k, o, n, fs) ∧ ns = nums (k, o, n, fs) := by
  unfold inpN
  split
  · rename_i a
    by_cases h : a ≤ 1099511627776
    · rw [if_pos h]; simp [Fit, nums]
      constructor
      · rintro ⟨rfl, rfl, rfl⟩; exact ⟨⟨rfl, h, rfl⟩, rfl⟩
      · rintro ⟨⟨rfl, _, rfl⟩, rfl⟩; exact ⟨rfl, rfl, rfl⟩
    · rw [if_neg h]; simp [Fit, nums]
      rintro _ h1 _ rfl; exact h h1
  · rename_i a t
    by_cases h : a = t.length ∧ risL (-1) (zs t) = true
    · rw [if_pos h]; simp [Fit, nums]
      constructor
      · rintro ⟨rfl, rfl, rfl⟩; exact ⟨⟨rfl, rfl, h.2⟩, h.1, rfl⟩
      · rintro ⟨⟨rfl, rfl, _⟩, _, rfl⟩; exact ⟨rfl, rfl, rfl⟩
    · rw [if_neg h]; simp [Fit, nums]
      rintro _ _ h1 h2 rfl; exact h ⟨h2, h1⟩
  · rename_i a b
    by_cases h : 2 ≤ a ∧ a ≤ 8 ∧ b < a
    · rw [if_pos h]; simp [Fit, nums]
      constructor
      · rintro ⟨rfl, rfl, rfl⟩; exact ⟨⟨h.1, h.2.1, h.2.2, rfl⟩, rfl, rfl⟩
      · rintro ⟨⟨_, _, _, rfl⟩, rfl, rfl⟩; exact ⟨rfl, rfl, rfl⟩
    · rw [if_neg h]; simp [Fit, nums]
      rintro h1 h2 h3 _ rfl rfl; exact h ⟨h1, h2, h3⟩
  · rename_i a b
    by_cases h : 1 ≤ a ∧ a ≤ 1000000 ∧ b < a
    · rw [if_pos h]; simp [Fit, nums]
      constructor
      · rintro ⟨rfl, rfl, rfl⟩; exact ⟨⟨h.1, h.2.1, h.2.2, rfl⟩, rfl, rfl⟩
      · rintro ⟨⟨_, _, _, rfl⟩, rfl, rfl⟩; exact ⟨rfl, rfl, rfl⟩
    · rw [if_neg h]; simp [Fit, nums]
      rintro h1 h2 h3 _ rfl rfl; exact h ⟨h1, h2, h3⟩
  · rename_i a
    by_cases h : 1 ≤ a ∧ a ≤ 5
    · rw [if_pos h]; simp [Fit, nums]
      constructor
      · rintro ⟨rfl, rfl, rfl⟩; exact ⟨⟨rfl, h.1, h.2, rfl⟩, rfl⟩
      · rintro ⟨⟨rfl, _, _, rfl⟩, rfl⟩; exact ⟨rfl, rfl, rfl⟩
    · rw [if_neg h]; simp [Fit, nums]
      rintro _ h1 h2 _ rfl; exact h ⟨h1, h2⟩
  · rename_i h1 h2 h3 h4 h5
    constructor
    · intro h; cases h
    · rintro ⟨hf, hn⟩
      rcases hf with ⟨e, _⟩ | ⟨e, _⟩ | ⟨e, _⟩ | ⟨e, _⟩ | ⟨e, _⟩ <;> simp only at e <;> subst e <;> simp [nums] at hn <;> subst hn
      · exact absurd rfl (h1 _ rfl)
      · exact absurd rfl (h2 _ _ rfl)
      · exact absurd rfl (h3 _ _ rfl)
      · exact absurd rfl (h4 _ _ rfl)
      · exact absurd rfl (h5 _ rfl)
end Go.Proofs.YtfmbebofllgmoaaGreatDoor
namespace Go.Proofs.YtfmbebofllgmoaaGreatDoor
open Go.RowKit

/-- The body of an input, as numbers. -/
def bodyL (x : Inp) : List Nat := x.1 :: vbs (nums x)
theorem vb_le : ∀ (j n : Nat), n < 128 ^ (j + 1) → (vb n).length ≤ j + 1
  | 0, n, h => by rw [vb_small n (by omega)]; simp
  | j + 1, n, h => by
    by_cases hn : n < 128
    · rw [vb_small n hn]; simp
    · rw [vb_great n hn, List.length_cons]
      have h1 : n / 128 < 128 ^ (j + 1) := by rw [Nat.div_lt_iff_lt_mul (by omega)]; rwa [Nat.pow_succ] at h
      have := vb_le j (n / 128) h1
      omega
theorem vb_free (a b : Nat) (t t' : List Nat) (h : vb a ++ t = vb b ++ t') : a = b ∧ t = t' := by
  have ha : ∀ n : Nat, n < 128 ^ (n + 1) := fun n => Nat.lt_trans (Nat.lt_succ_self n) (Nat.lt_pow_self (by omega))
  have hp : ∀ n m : Nat, n ≤ m → n < 128 ^ (m + 1) := fun n m h => Nat.lt_of_le_of_lt h (ha m)
  have h1 := vGo_vb (a + b + 1) 0 0 a t (hp _ _ (by omega)) (by omega) (.inr rfl)
  have h2 := vGo_vb (a + b + 1) 0 0 b t' (hp _ _ (by omega)) (by omega) (.inr rfl)
  rw [h, h2] at h1
  injection h1 with e1 e2
  have e : a = b := by simp at e1; exact e1.symm
  subst e
  exact ⟨rfl, List.append_cancel_left h⟩
theorem vbs_free : ∀ (ns ms t t' : List Nat), ns.length = ms.length → vbs ns ++ t = vbs ms ++ t' → ns = ms ∧ t = t'
  | [], [], _, _, _, h => ⟨rfl, h⟩
  | [], _ :: _, _, _, hl, _ => absurd hl (by simp)
  | _ :: _, [], _, _, hl, _ => absurd hl (by simp)
  | n :: ns, m :: ms, t, t', hl, h => by
    rw [vbs_cons, vbs_cons, List.append_assoc, List.append_assoc] at h
    obtain ⟨rfl, h'⟩ := vb_free _ _ _ _ h
    obtain ⟨rfl, h''⟩ := vbs_free ns ms t t' (by simpa using hl) h'
    exact ⟨rfl, h''⟩
theorem Fit.kind {x : Inp} (h : Fit x) : x.1 = 1 ∨ x.1 = 2 ∨ x.1 = 3 ∨ x.1 = 4 ∨ x.1 = 5 := by
  rcases h with h | h | h | h | h
  · exact .inl h.1
  · exact .inr (.inl h.1)
  · exact .inr (.inr (.inl h.1))
  · exact .inr (.inr (.inr (.inl h.1)))
  · exact .inr (.inr (.inr (.inr h.1)))
/-- What an input is, is told by its kind and numbers. -/
theorem nums_inj {x y : Inp} (hx : Fit x) (hy : Fit y) (hk : x.1 = y.1) (h : nums x = nums y) : x = y := by
  obtain ⟨k, o, n, fs⟩ := x
  obtain ⟨k', o', n', fs'⟩ := y
  simp only at hk
  subst hk
  have h1 := (inpN_iff k (nums (k, o, n, fs)) o n fs).2 ⟨hx, rfl⟩
  have h2 := (inpN_iff k (nums (k, o', n', fs')) o' n' fs').2 ⟨hy, rfl⟩
  rw [← h, h1] at h2
  injection h2 with h2
  rw [h2]
/-- No body is the beginning of another one. -/
theorem bodyL_free {x y : Inp} (hx : Fit x) (hy : Fit y) (t t' : List Nat) (h : bodyL x ++ t = bodyL y ++ t') : x = y ∧ t = t' := by
  unfold bodyL at h
  rw [List.cons_append, List.cons_append] at h
  injection h with hk h
  have hl : (nums x).length = (nums y).length := by
    by_cases h2 : x.1 = 2
    · have h2' : y.1 = 2 := by rw [← hk]; exact h2
      have ex : nums x = x.2.2.2.length :: x.2.2.2 := by unfold nums; rw [if_pos h2]
      have ey : nums y = y.2.2.2.length :: y.2.2.2 := by unfold nums; rw [if_pos h2']
      rw [ex, ey, vbs_cons, vbs_cons, List.append_assoc, List.append_assoc] at h
      have := (vb_free _ _ _ _ h).1
      rw [ex, ey, List.length_cons, List.length_cons, this]
    · have h2' : ¬ y.1 = 2 := by rw [← hk]; exact h2
      unfold nums
      rw [if_neg h2, if_neg h2', hk]
      split <;> rfl
  obtain ⟨e, ht⟩ := vbs_free _ _ _ _ hl h
  exact ⟨nums_inj hx hy hk e, ht⟩

theorem risL_len : ∀ (fs : List Nat) (last : Int), -1 ≤ last → last < 8 → risL last (zs fs) = true → (fs.length : Int) + last ≤ 7 ∧ ∀ f, f ∈ fs → f < 8
  | [], last, _, h8, _ => ⟨by simp; omega, fun _ h => absurd h (by simp)⟩
  | f :: t, last, h1, h8, h => by
    have e : zs (f :: t) = (f : Int) :: zs t := rfl
    rw [e] at h
    simp only [risL] at h
    by_cases hc : (f : Int) ≤ last ∨ 8 ≤ (f : Int)
    · rw [if_pos hc] at h; cases h
    · rw [if_neg hc] at h
      obtain ⟨g1, g2⟩ := risL_len t f (by omega) (by omega) h
      refine ⟨by simp only [List.length_cons]; omega, ?_⟩
      intro x hx
      rcases List.mem_cons.1 hx with rfl | hx
      · omega
      · exact g2 x hx
theorem vbs_small : ∀ (fs : List Nat), (∀ f, f ∈ fs → f < 128) → vbs fs = fs
  | [], _ => rfl
  | f :: t, h => by
    rw [vbs_cons, vb_small f (h f (List.mem_cons_self ..)), vbs_small t (fun x hx => h x (List.mem_cons_of_mem _ hx))]; rfl
theorem Fit.nums_lt {x : Inp} (h : Fit x) : ∀ n, n ∈ nums x → n < 128 ^ 6 := by
  obtain ⟨k, o, n, fs⟩ := x
  rcases h with ⟨e, h1, h2, h3⟩ | ⟨e, h1, h2, h3⟩ | ⟨e, h1, h2, h3, h4⟩ | ⟨e, h1, h2, h3, h4⟩ | ⟨e, h1, h2, h3, h4⟩ <;> simp only at e h1 h2 h3 <;> subst e
  · intro m hm; simp [nums] at hm; omega
  · obtain ⟨g1, g2⟩ := risL_len fs (-1) (by omega) (by omega) h3
    intro m hm
    simp [nums] at hm
    rcases hm with rfl | hm
    · omega
    · have := g2 m hm; omega
  · intro m hm; simp [nums] at hm; omega
  · intro m hm; simp [nums] at hm; omega
  · intro m hm; simp [nums] at hm; omega
theorem bodyL_len {x : Inp} (h : Fit x) : 2 ≤ (bodyL x).length ∧ (bodyL x).length ≤ 10 := by
  obtain ⟨k, o, n, fs⟩ := x
  rcases h with ⟨e, h1, h2, h3⟩ | ⟨e, h1, h2, h3⟩ | ⟨e, h1, h2, h3, h4⟩ | ⟨e, h1, h2, h3, h4⟩ | ⟨e, h1, h2, h3, h4⟩ <;> simp only at e h1 h2 h3 <;> subst e
  · have := vb_le 5 n (by omega)
    have := vb_pos n
    simp only [bodyL, nums, vbs, List.length_cons]
    simp
    omega
  · obtain ⟨g1, g2⟩ := risL_len fs (-1) (by omega) (by omega) h3
    have e : bodyL (2, o, n, fs) = 2 :: fs.length :: fs := by
      have : nums (2, o, n, fs) = fs.length :: fs := rfl
      unfold bodyL
      rw [this, vbs_cons, vb_small _ (by omega), vbs_small fs (fun f hf => by have := g2 f hf; omega)]
      rfl
    rw [e]
    simp only [List.length_cons]
    omega
  · have e : bodyL (3, o, n, fs) = 3 :: (vb o ++ (vb n ++ [])) := rfl
    rw [e, vb_small o (by omega), vb_small n (by omega)]
    simp
  · have e : bodyL (4, o, n, fs) = 4 :: (vb o ++ (vb n ++ [])) := rfl
    have := vb_le 2 n (by omega)
    have := vb_le 2 o (by omega)
    have := vb_pos n
    rw [e, List.length_cons, List.length_append, List.append_nil]
    omega
  · have e : bodyL (5, o, n, fs) = 5 :: (vb n ++ []) := rfl
    rw [e, vb_small n (by omega)]
    simp

/-- What the bytes of a body tell. -/
def ipL (l : List Nat) : Option Inp := match l with
  | [] => none
  | k :: t => (varsL t.length t).bind fun ns => (inpN k ns).map fun r => (k, r)
theorem ipL_iff (l : List Nat) (hb : ∀ x, x ∈ l → x < 256) (x : Inp) : ipL l = some x ↔ Fit x ∧ l = bodyL x := by
  obtain ⟨k, o, n, fs⟩ := x
  cases l with
  | nil => simp [ipL, bodyL]
  | cons c t =>
    have hbt : ∀ x, x ∈ t → x < 256 := fun x hx => hb x (List.mem_cons_of_mem _ hx)
    constructor
    · intro h
      simp only [ipL] at h
      obtain ⟨ns, h1, h2⟩ := Option.bind_eq_some_iff.1 h
      obtain ⟨⟨o', n', fs'⟩, h3, h4⟩ := Option.map_eq_some_iff.1 h2
      injection h4 with e1 e2
      injection e2 with e2 e3
      injection e3 with e3 e4
      subst e1 e2 e3 e4
      obtain ⟨g1, g2⟩ := (inpN_iff c ns o' n' fs').1 h3
      obtain ⟨g3, _⟩ := (varsL_iff t.length t ns (Nat.le_refl _) hbt).1 h1
      exact ⟨g1, by unfold bodyL; rw [← g2, ← g3]⟩
    · rintro ⟨hf, h⟩
      unfold bodyL at h
      injection h with e1 e2
      simp only at e1
      subst e1
      have h1 := (varsL_iff t.length t (nums (c, o, n, fs)) (Nat.le_refl _) hbt).2 ⟨e2, hf.nums_lt⟩
      have h3 := (inpN_iff c (nums (c, o, n, fs)) o n fs).2 ⟨hf, rfl⟩
      simp only [ipL, h1, Option.bind_some, h3, Option.map_some]
theorem ipL_bs (b : ByteArray) (h0 : 0 < b.size) : ipL (bs b) = (inpM b).map fun r => (byteAt b 0, r) := by
  have hl := bs_len b
  have he := bs_extract b 1
  have hz : (b.extract 1 b.size).size = b.size - 1 := by simp [ByteArray.size_extract]
  cases h : bs b with
  | nil => rw [h] at hl; simp at hl; omega
  | cons k t =>
    have hk : byteAt b 0 = k := by rw [byteAt_bs, h]; rfl
    have ht : bs (b.extract 1 b.size) = t := by rw [he, h]; rfl
    have hn : (b.extract 1 b.size).size = t.length := by rw [← bs_len, ht]
    unfold inpM varsM
    rw [hk, ht, hn]
    simp only [ipL]
    cases varsL t.length t with
    | none => rfl
    | some ns => rfl

/-! ### The sum -/
def smB (l : List Nat) : ByteArray := ⟨(l.map UInt8.ofNat).toArray⟩
theorem smB_bs (b : ByteArray) : smB (bs b) = b := by
  obtain ⟨⟨l⟩⟩ := b
  simp only [smB, bs, List.map_map]
  have : (UInt8.ofNat ∘ UInt8.toNat) = id := by funext x; simp
  rw [this, List.map_id]
/-- The four bytes of the sum, as numbers. -/
def sm (l : List Nat) : List Nat := bs (sumS (smB l))
theorem sm_bs (b : ByteArray) : sm (bs b) = bs (sumS b) := by unfold sm; rw [smB_bs]
theorem sumStep_range (z : Int) (b : UInt8) : 0 ≤ sumStep z b ∧ sumStep z b < 4294967296 := by
  unfold sumStep; omega
theorem mulN_inj (a b : Nat) (ha : a < 4294967296) (hb : b < 4294967296) (h : a * 16777619 % 4294967296 = b * 16777619 % 4294967296) : a = b := by
  have pq : 16777619 * 899433627 % 4294967296 = 1 := by decide
  have e : ∀ c : Nat, c < 4294967296 → c * 16777619 % 4294967296 * 899433627 % 4294967296 = c := by
    intro c hc
    rw [Nat.mod_mul_mod, Nat.mul_assoc, Nat.mul_mod, pq, Nat.mul_one, Nat.mod_mod, Nat.mod_eq_of_lt hc]
  rw [← e a ha, h, e b hb]
theorem mul_inj (a b : Nat) (ha : a < 4294967296) (hb : b < 4294967296) (h : (a : Int) * 16777619 % 4294967296 = (b : Int) * 16777619 % 4294967296) : a = b := by
  refine mulN_inj a b ha hb ?_
  have e : ∀ c : Nat, (c : Int) * 16777619 % 4294967296 = ((c * 16777619 % 4294967296 : Nat) : Int) := fun c => by rw [Int.natCast_emod, Int.natCast_mul]; rfl
  rw [e, e] at h
  exact Int.ofNat_inj.1 h
theorem xor_inj (a b c : Nat) (h : a ^^^ c = b ^^^ c) : a = b := by
  have : a ^^^ c ^^^ c = b ^^^ c ^^^ c := by rw [h]
  rwa [Nat.xor_assoc, Nat.xor_assoc, Nat.xor_self, Nat.xor_zero, Nat.xor_zero] at this
theorem sumStep_eq (z : Int) (b : UInt8) (hz : 0 ≤ z ∧ z < 4294967296) : sumStep z b = ((z.toNat ^^^ b.toNat : Nat) : Int) * 16777619 % 4294967296 := by
  have hb := UInt8.toNat_lt b
  have e : (b.toNat : Int) % 4294967296 = (b.toNat : Int) := by omega
  unfold sumStep
  rw [e, u32_xor z _ hz.1 hz.2 (by omega) (by omega), Int.toNat_natCast]
theorem xor_range (z : Int) (b : UInt8) (hz : 0 ≤ z ∧ z < 4294967296) : z.toNat ^^^ b.toNat < 4294967296 := by
  have hb := UInt8.toNat_lt b
  exact Nat.xor_lt_two_pow (x := z.toNat) (y := b.toNat) (n := 32) (by omega) (by omega)
theorem sumStep_inj (z z' : Int) (b : UInt8) (hz : 0 ≤ z ∧ z < 4294967296) (hz' : 0 ≤ z' ∧ z' < 4294967296) (h : sumStep z b = sumStep z' b) : z = z' := by
  rw [sumStep_eq z b hz, sumStep_eq z' b hz'] at h
  have h1 := mul_inj _ _ (xor_range z b hz) (xor_range z' b hz') h
  have h2 := xor_inj z.toNat z'.toNat b.toNat h1
  omega
theorem sumStep_byte (z : Int) (b b' : UInt8) (hz : 0 ≤ z ∧ z < 4294967296) (h : sumStep z b = sumStep z b') : b = b' := by
  rw [sumStep_eq z b hz, sumStep_eq z b' hz] at h
  have h1 := mul_inj _ _ (xor_range z b hz) (xor_range z b' hz) h
  have h2 : z.toNat ^^^ b.toNat = z.toNat ^^^ b'.toNat := h1
  rw [Nat.xor_comm, Nat.xor_comm z.toNat] at h2
  exact UInt8.toNat_inj.1 (xor_inj _ _ _ h2)
theorem fold_range (l : List UInt8) : ∀ z : Int, (0 ≤ z ∧ z < 4294967296) → 0 ≤ l.foldl sumStep z ∧ l.foldl sumStep z < 4294967296 := by
  induction l with
  | nil => intro z h; exact h
  | cons b r ih => intro z _; exact ih _ (sumStep_range z b)
theorem fold_inj (l : List UInt8) : ∀ z z' : Int, (0 ≤ z ∧ z < 4294967296) → (0 ≤ z' ∧ z' < 4294967296) → l.foldl sumStep z = l.foldl sumStep z' → z = z' := by
  induction l with
  | nil => intro z z' _ _ h; exact h
  | cons b r ih => intro z z' hz hz' h; exact sumStep_inj z z' b hz hz' (ih _ _ (sumStep_range z b) (sumStep_range z' b) h)
theorem start_range : (0 : Int) ≤ 2166136261 ∧ (2166136261 : Int) < 4294967296 := ⟨by omega, by omega⟩
theorem sumZ_range (l : List UInt8) : 0 ≤ sumZ l ∧ sumZ l < 4294967296 := fold_range l 2166136261 start_range
theorem sumZ_one (l r : List UInt8) (x y : UInt8) (h : sumZ (l ++ x :: r) = sumZ (l ++ y :: r)) : x = y := by
  have e : ∀ u : UInt8, sumZ (l ++ u :: r) = r.foldl sumStep (sumStep (sumZ l) u) := fun u => by unfold sumZ; rw [List.foldl_append, List.foldl_cons]
  rw [e x, e y] at h
  exact sumStep_byte (sumZ l) x y (sumZ_range l) (fold_inj r _ _ (sumStep_range _ x) (sumStep_range _ y) h)
theorem bs_b4 (z : Int) : bs (b4 z) = [(z / 16777216 % 256).toNat, (z / 65536 % 256).toNat, (z / 256 % 256).toNat, (z % 256).toNat] := by
  unfold b4
  simp only [bs_push, bs_empty, List.nil_append, UInt8.toNat_ofNat', List.cons_append]
  congr 1
  · omega
  · congr 1
    · omega
    · congr 1
      · omega
      · congr 1; omega
theorem b4_inj (z z' : Int) (hz : 0 ≤ z ∧ z < 4294967296) (hz' : 0 ≤ z' ∧ z' < 4294967296) (h : bs (b4 z) = bs (b4 z')) : z = z' := by
  rw [bs_b4 z, bs_b4 z'] at h
  injection h with h1 h
  injection h with h2 h
  injection h with h3 h
  injection h with h4 _
  omega
theorem sm_len (l : List Nat) : (sm l).length = 4 := by
  unfold sm sumS
  rw [bs_b4]; rfl
/-- One byte turned: another sum. -/
theorem sm_one (l r : List Nat) (x y : Nat) (hx : x < 256) (hy : y < 256) (h : sm (l ++ x :: r) = sm (l ++ y :: r)) : x = y := by
  unfold sm sumS at h
  have h1 := b4_inj _ _ (sumZ_range _) (sumZ_range _) h
  simp only [smB, List.map_append, List.map_cons] at h1
  have h2 := sumZ_one _ _ _ _ h1
  have := congrArg UInt8.toNat h2
  simp only [UInt8.toNat_ofNat'] at this
  omega
end Go.Proofs.YtfmbebofllgmoaaGreatDoor
namespace Go.Proofs.YtfmbebofllgmoaaGreatDoor
open Go.RowKit

/-- The record of an input, as numbers. -/
def frL (x : Inp) : List Nat := (bodyL x).length :: (bodyL x ++ sm (bodyL x))
theorem frL_len (x : Inp) : (frL x).length = (bodyL x).length + 5 := by
  unfold frL; rw [List.length_cons, List.length_append, sm_len]
/-- The record with which bytes begin (what it tells, how long it is), or why there is none. -/
def rcL (l : List Nat) : Nat ⊕ (Inp × Nat) := match l with
  | [] => .inl 2
  | n :: t => if 128 ≤ n ∧ t = [] then .inl 2 else if n < 1 ∨ 40 < n then .inl 4 else if t.length < n + 4 then .inl 2 else if sm (t.take n) ≠ (t.drop n).take 4 then .inl 3 else match ipL (t.take n) with
    | none => .inl 4
    | some x => .inr (x, n + 5)
theorem rcL_size (l : List Nat) (x : Inp) (k : Nat) (h : rcL l = .inr (x, k)) : 0 < k ∧ k ≤ l.length := by
  cases l with
  | nil => simp [rcL] at h
  | cons n t =>
    simp only [rcL] at h
    split at h
    · cases h
    split at h
    · cases h
    split at h
    · cases h
    split at h
    · cases h
    split at h
    · cases h
    · injection h with h
      injection h with _ h
      rw [List.length_cons]
      omega
theorem sm_lt (l : List Nat) : ∀ x, x ∈ sm l → x < 256 := bs_lt _
theorem vb_lt (n : Nat) : ∀ x, x ∈ vb n → x < 256 := bs_lt _
theorem bodyL_lt {x : Inp} (h : Fit x) : ∀ y, y ∈ bodyL x → y < 256 := by
  intro y hy
  unfold bodyL at hy
  rcases List.mem_cons.1 hy with rfl | hy
  · have := h.kind; omega
  · obtain ⟨n, _, hn⟩ := List.mem_flatMap.1 hy
    exact vb_lt n y hn
theorem frL_lt {x : Inp} (h : Fit x) : ∀ y, y ∈ frL x → y < 256 := by
  intro y hy
  unfold frL at hy
  rcases List.mem_cons.1 hy with rfl | hy
  · have := bodyL_len h; omega
  · rcases List.mem_append.1 hy with hy | hy
    · exact bodyL_lt h y hy
    · exact sm_lt _ y hy
theorem rc_frame {x : Inp} (h : Fit x) (rest : List Nat) : rcL (frL x ++ rest) = .inr (x, (frL x).length) := by
  have hl := bodyL_len h
  have hi := (ipL_iff (bodyL x) (bodyL_lt h) x).2 ⟨h, rfl⟩
  have hs := sm_len (bodyL x)
  have e : frL x ++ rest = (bodyL x).length :: (bodyL x ++ (sm (bodyL x) ++ rest)) := by unfold frL; simp
  rw [e, frL_len]
  have hd : (bodyL x ++ (sm (bodyL x) ++ rest)).drop (bodyL x).length = sm (bodyL x) ++ rest := List.drop_left
  have ht : (bodyL x ++ (sm (bodyL x) ++ rest)).take (bodyL x).length = bodyL x := List.take_left
  have ht4 : (sm (bodyL x) ++ rest).take 4 = sm (bodyL x) := by rw [← hs]; exact List.take_left
  have hlen : (bodyL x ++ (sm (bodyL x) ++ rest)).length = (bodyL x).length + (4 + rest.length) := by rw [List.length_append, List.length_append, hs]
  simp only [rcL]
  rw [if_neg (by omega), if_neg (by omega), if_neg (by rw [hlen]; omega), ht, hd, ht4, if_neg (by simp), hi]
theorem rc_cut {x : Inp} (h : Fit x) (p : List Nat) (hp : p <+: frL x) (hn : p.length < (frL x).length) : rcL p = .inl 2 := by
  have hl := bodyL_len h
  cases p with
  | nil => rfl
  | cons n t =>
    obtain ⟨r, hr⟩ := hp
    unfold frL at hr
    rw [List.cons_append] at hr
    injection hr with e _
    rw [frL_len, List.length_cons] at hn
    simp only [rcL]
    rw [if_neg (by omega), if_neg (by omega), if_pos (by omega)]
theorem rc_why (l : List Nat) (w : Nat) (h : rcL l = .inl w) : 2 ≤ w ∧ w ≤ 4 := by
  cases l with
  | nil => simp [rcL] at h; omega
  | cons n t =>
    simp only [rcL] at h
    split at h
    · injection h with h; omega
    split at h
    · injection h with h; omega
    split at h
    · injection h with h; omega
    split at h
    · injection h with h; omega
    split at h
    · injection h with h; omega
    · cases h
theorem take_free (a b r : List Nat) (n : Nat) (h : a ++ r = b) (hn : n ≤ b.length) : (∃ t, a = b.take n ++ t) ∨ (∃ t, b.take n = a ++ t) := by
  subst h
  by_cases hc : n ≤ a.length
  · refine .inl ⟨a.drop n, ?_⟩
    rw [List.take_append_of_le_length hc, List.take_append_drop]
  · refine .inr ⟨r.take (n - a.length), ?_⟩
    rw [List.take_append, List.take_of_length_le (by omega)]
/-- One byte of a record is turned: there is none. -/
theorem rc_harm {x : Inp} (h : Fit x) (rest : List Nat) (hr : ∀ y, y ∈ rest → y < 256) (j v : Nat) (hj : j < (frL x).length) (hv : v < 256) (hne : v ≠ (frL x).getD j 0) : ∃ w, rcL ((frL x).set j v ++ rest) = .inl w := by
  have hl := bodyL_len h
  have hs := sm_len (bodyL x)
  rw [frL_len] at hj
  cases hrc : rcL ((frL x).set j v ++ rest) with
  | inl w => exact ⟨w, rfl⟩
  | inr q =>
    exfalso
    obtain ⟨y, k⟩ := q
    cases j with
    | zero =>
      have e : (frL x).set 0 v ++ rest = v :: (bodyL x ++ (sm (bodyL x) ++ rest)) := by unfold frL; simp
      have hv' : v ≠ (bodyL x).length := by simpa [frL] using hne
      rw [e] at hrc
      simp only [rcL] at hrc
      split at hrc
      · cases hrc
      split at hrc
      · cases hrc
      split at hrc
      · cases hrc
      rename_i _ _ hlen
      split at hrc
      · cases hrc
      split at hrc
      · cases hrc
      rename_i z hz
      have hb : ∀ y, y ∈ (bodyL x ++ (sm (bodyL x) ++ rest)).take v → y < 256 := by
        intro y hy
        rcases List.mem_append.1 (List.mem_of_mem_take hy) with hy | hy
        · exact bodyL_lt h y hy
        · rcases List.mem_append.1 hy with hy | hy
          · exact sm_lt _ y hy
          · exact hr y hy
      obtain ⟨hf, hbody⟩ := (ipL_iff _ hb z).1 hz
      have hle : v ≤ (bodyL x ++ (sm (bodyL x) ++ rest)).length := by omega
      have hvl : ((bodyL x ++ (sm (bodyL x) ++ rest)).take v).length = v := by rw [List.length_take]; omega
      rcases take_free (bodyL x) _ (sm (bodyL x) ++ rest) v rfl hle with ⟨t, ht⟩ | ⟨t, ht⟩
      · rw [hbody] at ht
        obtain ⟨e1, e2⟩ := bodyL_free h hf [] t (by rw [List.append_nil]; exact ht)
        rw [hbody, ← e1] at hvl
        exact hv' hvl.symm
      · rw [hbody] at ht
        obtain ⟨e1, e2⟩ := bodyL_free hf h [] t (by rw [List.append_nil]; exact ht)
        rw [hbody, e1] at hvl
        exact hv' hvl.symm
    | succ j =>
      have e : (frL x).set (j + 1) v ++ rest = (bodyL x).length :: ((bodyL x ++ sm (bodyL x)).set j v ++ rest) := by unfold frL; simp
      rw [e] at hrc
      have hlen : ((bodyL x ++ sm (bodyL x)).set j v ++ rest).length = (bodyL x).length + 4 + rest.length := by rw [List.length_append, List.length_set, List.length_append, hs]
      simp only [rcL] at hrc
      rw [if_neg (by omega), if_neg (by omega), if_neg (by rw [hlen]; omega)] at hrc
      split at hrc
      · cases hrc
      rename_i hsum
      have hsum := Decidable.not_not.1 hsum
      by_cases hc : j < (bodyL x).length
      · have e1 : (bodyL x ++ sm (bodyL x)).set j v = (bodyL x).set j v ++ sm (bodyL x) := List.set_append_left _ _ hc
        have hl2 : ((bodyL x).set j v).length = (bodyL x).length := List.length_set
        rw [e1, List.append_assoc] at hsum
        rw [← hl2, List.take_left, List.drop_left] at hsum
        have ht4 : (sm (bodyL x) ++ rest).take 4 = sm (bodyL x) := by rw [← hs]; exact List.take_left
        rw [ht4] at hsum
        have hne' : v ≠ (bodyL x)[j] := by
          have : (frL x).getD (j + 1) 0 = (bodyL x)[j] := by
            unfold frL
            rw [List.getD_cons_succ, List.getD_eq_getElem?_getD, List.getElem?_append_left hc, List.getElem?_eq_getElem hc]; rfl
          rw [this] at hne; exact hne
        have hsplit : bodyL x = (bodyL x).take j ++ (bodyL x)[j] :: (bodyL x).drop (j + 1) := by rw [← List.drop_eq_getElem_cons hc, List.take_append_drop]
        have hset : (bodyL x).set j v = (bodyL x).take j ++ v :: (bodyL x).drop (j + 1) := by rw [List.set_eq_take_append_cons_drop, if_pos hc]
        rw [hset] at hsum
        generalize hB : (bodyL x)[j] = u at *
        have hu : u < 256 := bodyL_lt h u (by rw [← hB]; exact List.getElem_mem hc)
        have h3 : sm ((bodyL x).take j ++ v :: (bodyL x).drop (j + 1)) = sm ((bodyL x).take j ++ u :: (bodyL x).drop (j + 1)) := by
          rw [← hsplit]; exact hsum
        exact hne' (sm_one _ _ _ _ hv hu h3)
      · have e1 : (bodyL x ++ sm (bodyL x)).set j v = bodyL x ++ (sm (bodyL x)).set (j - (bodyL x).length) v := List.set_append_right _ _ (by omega)
        rw [e1, List.append_assoc, List.take_left, List.drop_left] at hsum
        have ht4 : ((sm (bodyL x)).set (j - (bodyL x).length) v ++ rest).take 4 = (sm (bodyL x)).set (j - (bodyL x).length) v := by
          have : ((sm (bodyL x)).set (j - (bodyL x).length) v).length = 4 := by rw [List.length_set, hs]
          rw [← this]; exact List.take_left
        rw [ht4] at hsum
        have hjs : j - (bodyL x).length < (sm (bodyL x)).length := by rw [hs]; omega
        have h1 : (sm (bodyL x)).getD (j - (bodyL x).length) 0 = v := by
          conv => lhs; rw [hsum]
          rw [List.getD_eq_getElem?_getD, List.getElem?_set_self hjs]; rfl
        have h2 : (frL x).getD (j + 1) 0 = (sm (bodyL x)).getD (j - (bodyL x).length) 0 := by
          unfold frL
          rw [List.getD_cons_succ, List.getD_eq_getElem?_getD, List.getElem?_append_right (by omega), List.getD_eq_getElem?_getD]
        rw [h2, h1] at hne
        exact hne rfl

/-- A log is read, record by record. -/
def rdL : Nat → List Nat → Nat → List Inp × Nat × Nat
  | 0, _, at_ => ([], at_, 2)
  | f + 1, l, at_ => match rcL l with
    | .inl w => ([], at_, w)
    | .inr (x, k) => if x.1 = 5 then ([x], at_ + k, if l.drop k = [] then 1 else 5) else (x :: (rdL f (l.drop k) (at_ + k)).1, (rdL f (l.drop k) (at_ + k)).2)
theorem rdL_more : ∀ (f g : Nat) (l : List Nat) (a : Nat), l.length < f → l.length < g → rdL f l a = rdL g l a
  | 0, _, _, _, h, _ => absurd h (Nat.not_lt_zero _)
  | _, 0, _, _, _, h => absurd h (Nat.not_lt_zero _)
  | f + 1, g + 1, l, a, hf, hg => by
    simp only [rdL]
    cases h : rcL l with
    | inl w => rfl
    | inr q =>
      obtain ⟨x, k⟩ := q
      have hk := rcL_size l x k h
      simp only
      rw [rdL_more f g (l.drop k) (a + k) (by rw [List.length_drop]; omega) (by rw [List.length_drop]; omega)]
theorem rdL_step (f : Nat) (l : List Nat) (a : Nat) (x : Inp) (k : Nat) (h : rcL l = .inr (x, k)) (h5 : x.1 ≠ 5) : rdL (f + 1) l a = (x :: (rdL f (l.drop k) (a + k)).1, (rdL f (l.drop k) (a + k)).2) := by
  simp only [rdL, h]; rw [if_neg h5]
/-- The records of inputs, one behind the other. -/
def frs (xs : List Inp) : List Nat := xs.flatMap frL
theorem frs_cons (x : Inp) (r : List Inp) : frs (x :: r) = frL x ++ frs r := rfl
theorem rd_frames : ∀ (xs : List Inp) (rest : List Nat) (f a : Nat), (∀ x, x ∈ xs → Fit x ∧ x.1 ≠ 5) → (frs xs ++ rest).length < f →
    rdL f (frs xs ++ rest) a = (xs ++ (rdL (rest.length + 1) rest (a + (frs xs).length)).1, (rdL (rest.length + 1) rest (a + (frs xs).length)).2)
  | [], rest, f, a, _, hf => by
    have e : frs [] ++ rest = rest := rfl
    rw [e] at hf ⊢
    rw [rdL_more f (rest.length + 1) rest a hf (by omega)]
    rfl
  | x :: r, rest, 0, a, _, hf => absurd hf (Nat.not_lt_zero _)
  | x :: r, rest, f + 1, a, hx, hf => by
    obtain ⟨h1, h5⟩ := hx x (List.mem_cons_self ..)
    have hr := fun y hy => hx y (List.mem_cons_of_mem _ hy)
    have hk := frL_len x
    rw [frs_cons, List.append_assoc] at hf ⊢
    have hd : (frL x ++ (frs r ++ rest)).drop (frL x).length = frs r ++ rest := List.drop_left
    rw [rdL_step f _ a x _ (rc_frame h1 (frs r ++ rest)) h5, hd, rd_frames r rest f (a + (frL x).length) hr (by rw [List.length_append] at hf; omega), List.length_append, Nat.add_assoc]
    rfl

def hd3 : List Nat := [82, 82, 49]
/-- A whole log is read. -/
def readL (l : List Nat) : List Inp × Nat × Nat := if hd3 <+: l then rdL (l.length + 1) (l.drop 3) 3 else if l <+: hd3 then ([], 0, 2) else ([], 0, 4)
/-- The log of inputs and an end. -/
def logL (xs : List Inp) (e : Nat) : List Nat := hd3 ++ (frs xs ++ frL (5, 0, e, []))
theorem fit_end (e : Nat) (h1 : 1 ≤ e) (h5 : e ≤ 5) : Fit (5, 0, e, []) := .inr (.inr (.inr (.inr ⟨rfl, rfl, h1, h5, rfl⟩)))
theorem readL_head (r : List Nat) : readL (hd3 ++ r) = rdL (r.length + 1) r 3 := by
  unfold readL
  rw [if_pos (List.prefix_append _ _)]
  have e : (hd3 ++ r).drop 3 = r := rfl
  rw [e]
  exact rdL_more _ _ _ _ (by rw [List.length_append]; have : hd3.length = 3 := rfl; omega) (by omega)
theorem read_log (xs : List Inp) (e : Nat) (hx : ∀ x, x ∈ xs → Fit x ∧ x.1 ≠ 5) (h1 : 1 ≤ e) (h5 : e ≤ 5) : readL (logL xs e) = (xs ++ [(5, 0, e, [])], (logL xs e).length, 1) := by
  have hf := fit_end e h1 h5
  have hr := rc_frame hf []
  rw [List.append_nil] at hr
  have hl : (logL xs e).length = 3 + (frs xs).length + (frL (5, 0, e, [])).length := by
    unfold logL; rw [List.length_append, List.length_append]; have : hd3.length = 3 := rfl; omega
  unfold logL
  rw [readL_head, rd_frames xs (frL (5, 0, e, [])) _ 3 hx (Nat.lt_succ_self _)]
  have e2 : rdL ((frL (5, 0, e, [])).length + 1) (frL (5, 0, e, [])) (3 + (frs xs).length) = ([(5, 0, e, [])], 3 + (frs xs).length + (frL (5, 0, e, [])).length, 1) := by
    simp only [rdL, hr, if_true, List.drop_length]
  rw [e2]
  simp only
  rw [show (hd3 ++ (frs xs ++ frL (5, 0, e, []))).length = 3 + (frs xs).length + (frL (5, 0, e, [])).length from hl]
/-- A place within records: which record, and where in it. -/
theorem frs_split : ∀ (ys : List Inp) (n : Nat), n < (frs ys).length → ∃ m, ∃ hm : m < ys.length, ∃ j, j < (frL ys[m]).length ∧ n = (frs (ys.take m)).length + j ∧ frs ys = frs (ys.take m) ++ (frL ys[m] ++ frs (ys.drop (m + 1)))
  | [], n, h => absurd h (by simp [frs])
  | y :: r, n, h => by
    rw [frs_cons, List.length_append] at h
    by_cases hc : n < (frL y).length
    · exact ⟨0, by simp, n, hc, by simp [frs], by simp [frs]⟩
    · obtain ⟨m, hm, j, h1, h2, h3⟩ := frs_split r (n - (frL y).length) (by omega)
      refine ⟨m + 1, by simpa using hm, j, by simpa using h1, ?_, ?_⟩
      · rw [List.take_succ_cons, frs_cons, List.length_append]; omega
      · rw [frs_cons, h3, List.take_succ_cons, frs_cons, List.append_assoc]; simp
/-- Inputs and the end. -/
def alls (xs : List Inp) (e : Nat) : List Inp := xs ++ [(5, 0, e, [])]
theorem logL_alls (xs : List Inp) (e : Nat) : logL xs e = hd3 ++ frs (alls xs e) := by
  unfold logL alls frs; simp
theorem alls_fit {xs : List Inp} {e : Nat} (hx : ∀ x, x ∈ xs → Fit x ∧ x.1 ≠ 5) (h1 : 1 ≤ e) (h5 : e ≤ 5) : ∀ x, x ∈ alls xs e → Fit x := by
  intro x h
  rcases List.mem_append.1 h with h | h
  · exact (hx x h).1
  · rw [List.mem_singleton.1 h]; exact fit_end e h1 h5
theorem alls_take {xs : List Inp} {e m : Nat} (hm : m < (alls xs e).length) : (alls xs e).take m = xs.take m := by
  have : m ≤ xs.length := by unfold alls at hm; simp at hm; omega
  unfold alls; rw [List.take_append_of_le_length this]
/-- The first bytes of a log. -/
theorem read_cut (xs : List Inp) (e : Nat) (hx : ∀ x, x ∈ xs → Fit x ∧ x.1 ≠ 5) (h1 : 1 ≤ e) (h5 : e ≤ 5) (n : Nat) (h3 : 3 ≤ n) (hn : n < (logL xs e).length) : ∃ m a, m ≤ xs.length ∧ readL ((logL xs e).take n) = (xs.take m, a, 2) ∧ 3 ≤ a ∧ a ≤ n := by
  have hl3 : hd3.length = 3 := rfl
  rw [logL_alls] at hn ⊢
  rw [List.length_append] at hn
  obtain ⟨m, hm, j, hj, hnj, hs⟩ := frs_split (alls xs e) (n - 3) (by omega)
  have hml : m ≤ xs.length := by unfold alls at hm; simp at hm; omega
  have hft := alls_fit hx h1 h5 _ (List.getElem_mem hm)
  have htk : (hd3 ++ frs (alls xs e)).take n = hd3 ++ (frs ((alls xs e).take m) ++ (frL (alls xs e)[m]).take j) := by
    rw [List.take_append, List.take_of_length_le (by omega), hl3, hnj, hs, List.take_append, List.take_of_length_le (by omega), Nat.add_sub_cancel_left, List.take_append_of_le_length (by omega)]
  have hxm : ∀ x, x ∈ (alls xs e).take m → Fit x ∧ x.1 ≠ 5 := by
    rw [alls_take hm]; exact fun x h => hx x (List.mem_of_mem_take h)
  have hcut := rc_cut hft ((frL (alls xs e)[m]).take j) (List.take_prefix _ _) (by rw [List.length_take]; omega)
  refine ⟨m, 3 + (frs ((alls xs e).take m)).length, hml, ?_, by omega, by omega⟩
  rw [htk, readL_head, rd_frames _ _ _ 3 hxm (Nat.lt_succ_self _)]
  simp only [rdL, hcut, List.append_nil]
  rw [alls_take hm]
theorem read_head (xs : List Inp) (e : Nat) (n : Nat) (h3 : n < 3) : readL ((logL xs e).take n) = ([], 0, 2) := by
  have e0 : (logL xs e).take n = hd3.take n := by
    unfold logL; rw [List.take_append_of_le_length (by have : hd3.length = 3 := rfl; omega)]
  rw [e0]
  have h : n = 0 ∨ n = 1 ∨ n = 2 := by omega
  rcases h with rfl | rfl | rfl <;> decide
/-- One byte of a log is turned. -/
theorem read_harm (xs : List Inp) (e : Nat) (hx : ∀ x, x ∈ xs → Fit x ∧ x.1 ≠ 5) (h1 : 1 ≤ e) (h5 : e ≤ 5) (n v : Nat) (h3 : 3 ≤ n) (hn : n < (logL xs e).length) (hv : v < 256) (hne : v ≠ (logL xs e).getD n 0) :
    ∃ m a w, m ≤ xs.length ∧ readL ((logL xs e).set n v) = (xs.take m, a, w) ∧ 3 ≤ a ∧ a ≤ n ∧ 2 ≤ w ∧ w ≤ 4 := by
  have hl3 : hd3.length = 3 := rfl
  rw [logL_alls] at hn hne ⊢
  rw [List.length_append] at hn
  obtain ⟨m, hm, j, hj, hnj, hs⟩ := frs_split (alls xs e) (n - 3) (by omega)
  have hml : m ≤ xs.length := by unfold alls at hm; simp at hm; omega
  have hft := alls_fit hx h1 h5 _ (List.getElem_mem hm)
  have hset : (hd3 ++ frs (alls xs e)).set n v = hd3 ++ (frs ((alls xs e).take m) ++ ((frL (alls xs e)[m]).set j v ++ frs ((alls xs e).drop (m + 1)))) := by
    rw [List.set_append_right _ _ (by omega), hl3, hnj, hs, List.set_append_right _ _ (by omega), Nat.add_sub_cancel_left, List.set_append_left _ _ hj]
  have hget : (hd3 ++ frs (alls xs e)).getD n 0 = (frL (alls xs e)[m]).getD j 0 := by
    rw [List.getD_eq_getElem?_getD, List.getElem?_append_right (by omega), hl3, hnj, hs, List.getElem?_append_right (by omega), Nat.add_sub_cancel_left, List.getElem?_append_left hj, ← List.getD_eq_getElem?_getD]
  rw [hget] at hne
  have hrest : ∀ y, y ∈ frs ((alls xs e).drop (m + 1)) → y < 256 := by
    intro y hy
    obtain ⟨z, hz, hy⟩ := List.mem_flatMap.1 hy
    exact frL_lt (alls_fit hx h1 h5 z (List.mem_of_mem_drop hz)) y hy
  have hxm : ∀ x, x ∈ (alls xs e).take m → Fit x ∧ x.1 ≠ 5 := by
    rw [alls_take hm]; exact fun x h => hx x (List.mem_of_mem_take h)
  obtain ⟨w, hw⟩ := rc_harm hft (frs ((alls xs e).drop (m + 1))) hrest j v hj hv hne
  have hww := rc_why _ w hw
  refine ⟨m, 3 + (frs ((alls xs e).take m)).length, w, hml, ?_, by omega, by omega, hww.1, hww.2⟩
  rw [hset, readL_head, rd_frames _ _ _ 3 hxm (Nat.lt_succ_self _)]
  simp only [rdL, hw, List.append_nil]
  rw [alls_take hm]
theorem read_harm_head (xs : List Inp) (e : Nat) (n v : Nat) (h3 : n < 3) (hne : v ≠ hd3.getD n 0) : readL ((logL xs e).set n v) = ([], 0, 4) := by
  have hset : (logL xs e).set n v = hd3.set n v ++ (frs xs ++ frL (5, 0, e, [])) := by
    unfold logL; rw [List.set_append_left _ _ (by have : hd3.length = 3 := rfl; omega)]
  have hp : ¬ hd3 <+: (logL xs e).set n v := by
    rw [hset]
    rintro ⟨t, ht⟩
    have hh : hd3 = hd3.set n v := by
      have := congrArg (List.take 3) ht
      rwa [List.take_left' (show hd3.length = 3 from rfl), List.take_left' (show (hd3.set n v).length = 3 by rw [List.length_set]; rfl)] at this
    have : (hd3.set n v).getD n 0 = v := by rw [List.getD_eq_getElem?_getD, List.getElem?_set_self (show n < hd3.length from h3)]; rfl
    rw [← hh] at this
    exact hne this.symm
  have hq : ¬ (logL xs e).set n v <+: hd3 := by
    intro hq
    have := hq.length_le
    rw [List.length_set, logL_alls, List.length_append] at this
    have h2 : 0 < (frs (alls xs e)).length := by
      unfold alls frs; simp [frL]; omega
    have : hd3.length = 3 := rfl
    omega
  unfold readL
  rw [if_neg hp, if_neg hq]
end Go.Proofs.YtfmbebofllgmoaaGreatDoor
namespace Go.Proofs.YtfmbebofllgmoaaGreatDoor
open Go.RowKit
attribute [local go_sem ↓] Go.wp_at_zero Go.wp_at_succ

theorem toList_bs {a b : ByteArray} : a.toList = b.toList ↔ bs a = bs b := by
  rw [Go.ByteArray.toList_eq, Go.ByteArray.toList_eq]
  constructor
  · intro h; unfold bs; rw [h]
  · intro h; rw [bs_inj h]
/-- Is b the beginning of a? -/
def preB (a b : ByteArray) : Bool := decide (b.size ≤ a.size) && ((a.extract 0 b.size).toList == b.toList)
theorem preB_iff (a b : ByteArray) : preB a b = true ↔ bs b <+: bs a := by
  unfold preB
  rw [Bool.and_eq_true, decide_eq_true_eq, beq_iff_eq, toList_bs]
  constructor
  · rintro ⟨h1, h2⟩
    rw [← h2, bs_sub, List.drop_zero]
    exact List.take_prefix _ _
  · intro h
    have hl := h.length_le
    rw [bs_len, bs_len] at hl
    refine ⟨hl, ?_⟩
    rw [bs_sub, List.drop_zero, ← bs_len b]
    exact (List.prefix_iff_eq_take.1 h).symm
set_option maxRecDepth 20000 in
theorem hasPre_any (a b : ByteArray) (w : World) : Calls Tryz.prog 120 #[.string a, .string b] w fun e w' => e = .returned (.bool (preB a b)) ∧ w' = w := by
  by_cases h : b.size ≤ a.size
  · have hi : (b.size : Int) ≤ (a.size : Int) := by omega
    have e : preB a b = ((a.extract 0 b.size).toList == b.toList) := by unfold preB; simp [h]
    rw [e]
    go_enter Tryz.func120, Tryz.ntmps120
    go_wp2
    go_ret
    exact ⟨rfl, rfl⟩
  · have hi : ¬ (b.size : Int) ≤ (a.size : Int) := by omega
    have e : preB a b = false := by unfold preB; simp [h]
    rw [e]
    go_enter Tryz.func120, Tryz.ntmps120
    go_wp2
    go_ret
    exact ⟨rfl, rfl⟩
theorem hasPrefix_any (a b : ByteArray) (w : World) : Calls Tryz.prog 98 #[.string a, .string b] w fun e w' => e = .returned (.bool (preB a b)) ∧ w' = w := by
  have h := hasPre_any a b
  have H := hide h
  clear h
  generalize preB a b = r at *
  go_enter Tryz.func98, Tryz.ntmps98
  go_wp2_with (go_at_call 120; refine ((unhide H) _).mono ?_; rintro e w' ⟨rfl, rfl⟩)
  go_ret
  exact ⟨rfl, rfl⟩
def hd3S : ByteArray := ⟨#[82, 82, 49]⟩
theorem hd3S_bs : bs hd3S = hd3 := rfl
/-- The reader's beginning. -/
def begM (s : ByteArray) : Int × Int := if hd3 <+: bs s then (3, 0) else if bs s <+: hd3 then (0, 2) else (0, 4)
theorem begin_any (s : ByteArray) (w : World) : Calls Tryz.prog 58 #[.string s] w fun e w' => e = .returned (.tuple #[.int .i64 (begM s).1, .int .i64 (begM s).2]) ∧ w' = w := by
  have h1 := hasPrefix_any s hd3S
  have h2 := hasPrefix_any hd3S s
  have e1 := preB_iff s hd3S
  have e2 := preB_iff hd3S s
  rw [hd3S_bs] at e1 e2
  have H1 := hide h1
  have H2 := hide h2
  clear h1 h2
  unfold hd3S at H1 H2 e1 e2
  have HM : Hid (begM s = if hd3 <+: bs s then (3, 0) else if bs s <+: hd3 then (0, 2) else (0, 4)) := hide rfl
  generalize begM s = M at *
  cases hr1 : preB s ⟨#[82, 82, 49]⟩ with
  | true =>
    rw [hr1] at H1 e1
    have hp := e1.1 rfl
    have hm := unhide HM
    rw [if_pos hp] at hm
    subst hm
    clear e1 e2 hr1 HM hp
    go_enter Tryz.func58, Tryz.ntmps58
    go_wp2_with (go_at_call 98; refine ((unhide H1) _).mono ?_; rintro e w' ⟨rfl, rfl⟩)
    refine bodyPost_ret (v := .tuple #[.int .i64 3, .int .i64 0]) (by simp [results, Tryz.results58, go_sem]) rfl ⟨rfl, rfl⟩
  | false =>
    rw [hr1] at H1 e1
    have hp : ¬ hd3 <+: bs s := fun h => by have := e1.2 h; cases this
    have hm := unhide HM
    rw [if_neg hp] at hm
    cases hr2 : preB ⟨#[82, 82, 49]⟩ s with
    | true =>
      rw [hr2] at H2 e2
      rw [if_pos (e2.1 rfl)] at hm
      subst hm
      clear e1 e2 hr1 hr2 HM hp
      go_enter Tryz.func58, Tryz.ntmps58
      go_wp2_with fail
      go_at_call 98
      refine ((unhide H1) _).mono ?_
      rintro e w' ⟨rfl, rfl⟩
      go_wp2_with fail
      go_at_call 98
      refine ((unhide H2) _).mono ?_
      rintro e w' ⟨rfl, rfl⟩
      go_wp2
      refine bodyPost_ret (v := .tuple #[.int .i64 0, .int .i64 2]) (by simp [results, Tryz.results58, go_sem]) rfl ⟨rfl, rfl⟩
    | false =>
      rw [hr2] at H2 e2
      rw [if_neg (fun h => by have := e2.2 h; cases this)] at hm
      subst hm
      clear e1 e2 hr1 hr2 HM hp
      go_enter Tryz.func58, Tryz.ntmps58
      go_wp2_with fail
      go_at_call 98
      refine ((unhide H1) _).mono ?_
      rintro e w' ⟨rfl, rfl⟩
      go_wp2_with fail
      go_at_call 98
      refine ((unhide H2) _).mono ?_
      rintro e w' ⟨rfl, rfl⟩
      go_wp2
      refine bodyPost_ret (v := .tuple #[.int .i64 0, .int .i64 4]) (by simp [results, Tryz.results58, go_sem]) rfl ⟨rfl, rfl⟩
end Go.Proofs.YtfmbebofllgmoaaGreatDoor
