/-
  PROVED HERE: world.modulo, world.heard, world.files. the reference's varint. the reference's Sum and Frame. the reference's Body. slices of bytes that are a writer's own; the log's appendVarint, sum and appendSum. a slice of one's own grows: what else lies in memory stays as it is. the log's body of an input, by kind.
-/
import Derived.Test.YtfmbebofllgmoaaGreatDoorMloopa
import Derived.Laws.BytesString
import Derived.Deep.RegionHeld3
import Derived.ArgAppend
import Derived.Deep.RegionLaw
namespace Go.Proofs.YtfmbebofllgmoaaGreatDoor
open Go.RowKit
attribute [local go_sem ↓] Go.wp_at_zero Go.wp_at_succ

theorem mod_arith (n of : Int) (h1 : 1 ≤ of) (h2 : of ≤ 1000000) : (wrap64 (n.tmod of + of)).tmod of = n % of := by
  have b1 : n.tmod of < of := Int.tmod_lt_of_pos n (by omega)
  have b2 : -of < n.tmod of := by
    have := Int.tmod_lt_of_pos (-n) (show 0 < of by omega)
    rw [Int.neg_tmod] at this
    omega
  have e : wrap64 (n.tmod of + of) = n.tmod of + of := by unfold wrap64; omega
  rw [e, Int.tmod_eq_emod_of_nonneg (by omega), Int.add_emod_right, Int.tmod_def, Int.sub_mul_emod_self_left]
theorem modulo_any (n of : Int) (w : World) (h1 : 1 ≤ of) (h2 : of ≤ 1000000) : Calls Tryz.prog 185 #[.int .i64 n, .int .i64 of] w fun e w' => e = .returned (.int .i64 (n % of)) ∧ w' = w := by
  have hne : (of == 0) = false := by simp; omega
  have hne' : of ≠ 0 := by omega
  go_enter Tryz.func185, Tryz.ntmps185
  go_wp2
  go_ret
  rw [← mod_arith n of h1 h2]
  exact ⟨rfl, rfl⟩

set_option maxHeartbeats 1000000 in
theorem heard_any (k o n : Int) (fv : Value) (a : Option Addr) (l c : Nat) (hfv : fv = .slice a l c) (ok : Bool) (w : World) : Calls Tryz.prog 183 #[.agg #[.int .i64 k, .int .i64 o, .int .i64 n, fv], .bool ok] w fun e w' =>
    e = .returned (.tuple #[if ok then .agg #[.int .i64 k, .int .i64 o, .int .i64 n, fv] else .agg #[.int .i64 0, .int .i64 0, .int .i64 0, .slice none 0 0], .int .i64 (if ok then 0 else 5)]) ∧ Fr (fun _ => False) w w' (fun _ => False) := by
  subst hfv
  cases ok
  · go_enter Tryz.func183, Tryz.ntmps183
    go_wp2
    refine bodyPost_ret (v := .tuple #[.agg #[.int .i64 0, .int .i64 0, .int .i64 0, .slice none 0 0], .int .i64 5]) (by simp [results, Tryz.results183, go_sem]) rfl ?_
    exact ⟨rfl, ((Fr.refl _ w).alloc _).alloc _⟩
  · go_enter Tryz.func183, Tryz.ntmps183
    go_wp2
    refine bodyPost_ret (v := .tuple #[.agg #[.int .i64 k, .int .i64 o, .int .i64 n, .slice a l c], .int .i64 0]) (by simp [results, Tryz.results183, go_sem]) rfl ?_
    exact ⟨rfl, ((Fr.refl _ w).alloc _).alloc _⟩

theorem frozen_any {w : World} {g e : Nat} {cur : Array Value} (hb : w.heap[g]? = some (.cells cur e (0, 0))) (j : Nat) : w.frozen? ⟨g, j, none⟩ = false := by simp [World.frozen?, hb]

/-- The first k files that are named. -/
def filesK (f : Nat → Bool) (k : Nat) : List Int := ((List.range k).filter f).map fun (j : Nat) => (j : Int)
theorem filesK_succ (f : Nat → Bool) (k : Nat) : filesK f (k + 1) = filesK f k ++ (if f k then [(k : Int)] else []) := by
  unfold filesK
  rw [List.range_succ, List.filter_append, List.map_append]
  congr 1
  cases h : f k <;> simp [h]
theorem filesK_length (f : Nat → Bool) (k : Nat) : (filesK f k).length ≤ k := by
  unfold filesK
  have := List.length_filter_le f (List.range k)
  simpa using this
theorem filesK_mem (f : Nat → Bool) (k : Nat) (z : Int) (h : z ∈ filesK f k) : 0 ≤ z ∧ z < k := by
  unfold filesK at h
  obtain ⟨j, hj, rfl⟩ := List.mem_map.1 h
  have := List.mem_range.1 (List.mem_filter.1 hj).1
  omega
/-- Which files a list names. -/
def namedB (l : List Int) (j : Nat) : Bool := l.contains (j : Int)
def boolL (f : Nat → Bool) : List Value := (List.range 8).map fun j => .bool (f j)
theorem index_b0 (f : Nat → Bool) (w : World) : (Instr.index 128 (.agg (boolL f).toArray) (.int .i64 0)).run Tryz.prog w = .ok (.bool (f 0)) w := by kernel_rfl
theorem index_b1 (f : Nat → Bool) (w : World) : (Instr.index 128 (.agg (boolL f).toArray) (.int .i64 1)).run Tryz.prog w = .ok (.bool (f 1)) w := by kernel_rfl
theorem index_b2 (f : Nat → Bool) (w : World) : (Instr.index 128 (.agg (boolL f).toArray) (.int .i64 2)).run Tryz.prog w = .ok (.bool (f 2)) w := by kernel_rfl
theorem index_b3 (f : Nat → Bool) (w : World) : (Instr.index 128 (.agg (boolL f).toArray) (.int .i64 3)).run Tryz.prog w = .ok (.bool (f 3)) w := by kernel_rfl
theorem index_b4 (f : Nat → Bool) (w : World) : (Instr.index 128 (.agg (boolL f).toArray) (.int .i64 4)).run Tryz.prog w = .ok (.bool (f 4)) w := by kernel_rfl
theorem index_b5 (f : Nat → Bool) (w : World) : (Instr.index 128 (.agg (boolL f).toArray) (.int .i64 5)).run Tryz.prog w = .ok (.bool (f 5)) w := by kernel_rfl
theorem index_b6 (f : Nat → Bool) (w : World) : (Instr.index 128 (.agg (boolL f).toArray) (.int .i64 6)).run Tryz.prog w = .ok (.bool (f 6)) w := by kernel_rfl
theorem index_b7 (f : Nat → Bool) (w : World) : (Instr.index 128 (.agg (boolL f).toArray) (.int .i64 7)).run Tryz.prog w = .ok (.bool (f 7)) w := by kernel_rfl
theorem index_b (f : Nat → Bool) (i : Nat) (hi : i < 8) (w : World) : (Instr.index 128 (.agg (boolL f).toArray) (.int .i64 (i : Int))).run Tryz.prog w = .ok (.bool (f i)) w := by
  have hc : i = 0 ∨ i = 1 ∨ i = 2 ∨ i = 3 ∨ i = 4 ∨ i = 5 ∨ i = 6 ∨ i = 7 := by omega
  rcases hc with rfl | rfl | rfl | rfl | rfl | rfl | rfl | rfl
  · exact index_b0 f w
  · exact index_b1 f w
  · exact index_b2 f w
  · exact index_b3 f w
  · exact index_b4 f w
  · exact index_b5 f w
  · exact index_b6 f w
  · exact index_b7 f w
def NamedAt (w : World) (b : Nat) (f : Nat → Bool) : Prop := ∀ j, j < 8 → w.cell? ⟨b, j, none⟩ = some (.bool (f j)) ∧ w.frozen? ⟨b, j, none⟩ = false
theorem NamedAt.set {w : World} {b : Nat} {f : Nat → Bool} (h : NamedAt w b f) (z : Nat) : NamedAt (w.setCell ⟨b, z, none⟩ (.bool true)) b (upd f z true) := by
  intro j hj
  obtain ⟨h1, h2⟩ := h j hj
  refine ⟨?_, by simpa using h2⟩
  by_cases e : j = z
  · subst e
    rw [World.cell?_setCell_same' _ _ _ (by rw [h1]; rfl)]
    simp [upd]
  · rw [World.cell?_setCell_other _ _ _ _ (by intro he; injection he; omega), h1]
    simp [upd, e]
theorem NamedAt.congr {w : World} {b : Nat} {f g : Nat → Bool} (h : NamedAt w b f) (he : ∀ j, j < 8 → g j = f j) : NamedAt w b g := fun j hj => by rw [he j hj]; exact h j hj
/-- The files that a list names, as a list that rises. -/
def filesL (l : List Int) : List Int := filesK (namedB l) 8

set_option maxHeartbeats 2000000 in
theorem files_any {w : World} {v : Value} {l : List Int} {P : Nat → Prop} (hP : ∀ q, P q → q < w.heap.size) (hl : IntsIn w v l P) (hn : l.length ≤ 100000000) :
    Calls Tryz.prog 184 #[v] w fun e w' => ∃ v', e = .returned v' ∧ OwnI w' w.heap.size v' (filesL l) ∧ Fr (fun _ => False) w w' (fun _ => False) := by
  obtain ⟨a, c, rfl, hc⟩ := hl
  have HC := hide hc
  have HP := hide hP
  clear hc hP
  go_enter Tryz.func184, Tryz.ntmps184
  go_wp2
  go_loopw [11] (fun i wr => ∃ k : Nat, k ≤ l.length ∧ i = .int .i64 k ∧ NamedAt wr w.heap.size (namedB (l.take k)) ∧ Fr (fun _ => False) w wr (fun _ => False) ∧ w.heap.size < wr.heap.size) (fun i _ => l.length - (intOf i).toNat)
  case atStart =>
    have hrow := heap_alloc_new w (.cells #[.bool false, .bool false, .bool false, .bool false, .bool false, .bool false, .bool false, .bool false] 128)
    refine ⟨0, Nat.zero_le _, rfl, fun j hj => ⟨?_, frozen_any hrow j⟩, (Fr.refl _ w).alloc _, by simp⟩
    rw [cell_of_row _ _ j _ 128 (0, 0) hrow]
    have hc : j = 0 ∨ j = 1 ∨ j = 2 ∨ j = 3 ∨ j = 4 ∨ j = 5 ∨ j = 6 ∨ j = 7 := by omega
    rcases hc with rfl | rfl | rfl | rfl | rfl | rfl | rfl | rfl <;> rfl
  case round =>
    obtain ⟨k, hk, rfl, hna, hf, hsz⟩ := hrel
    by_cases hlt : k < l.length
    · rcases unhide HC with hz | ⟨q, off, rfl, hq, hcell⟩
      · rw [hz] at hlt; simp at hlt
      have cz := (hf.cell q (off + k) (unhide HP q hq) (fun h => h)).trans (hcell k hlt)
      have hget : l.getD k 0 = l[k] := by simp [List.getD, hlt]
      rw [hget] at cz
      have htk : l.take (k + 1) = l.take k ++ [l[k]] := List.take_succ_eq_append_getElem hlt
      have HTK := hide htk
      have HNA := hide hna
      have HFR := hide hf
      clear hcell htk hget hf
      generalize l[k] = z at *
      by_cases hz : 0 ≤ z ∧ z < 8
      · obtain ⟨z0, z8⟩ := hz
        obtain ⟨cn, fz⟩ := hna z.toNat (by omega)
        clear hna
        go_wp2
        go_roundw
        case rel =>
          refine ⟨k + 1, by omega, by go_num, ?_, (unhide HFR).setCell _ _ (.inr (Nat.le_refl _)), by simpa [World.setCell] using hsz⟩
          rw [unhide HTK]
          refine ((unhide HNA).set z.toNat).congr (fun j hj => ?_)
          unfold namedB upd
          by_cases e : j = z.toNat
          · have e' : (j : Int) = z := by omega
            simp [e]
            exact .inr (by omega)
          · have e' : (j : Int) ≠ z := by omega
            simp [e, e']
        case measure => simp [intOf]; omega
      · have hzb : (decide (0 ≤ z) && decide (z < 8)) = false := by
          by_cases h0 : 0 ≤ z
          · have h8 : ¬ z < 8 := fun h => hz ⟨h0, h⟩
            simp [h8]
          · simp [h0]
        clear hna
        by_cases h0 : 0 ≤ z
        · have h8 : ¬ z < 8 := fun h => hz ⟨h0, h⟩
          go_wp2
          go_roundw
          case rel =>
            refine ⟨k + 1, by omega, by go_num, ?_, unhide HFR, hsz⟩
            rw [unhide HTK]
            refine (unhide HNA).congr (fun j hj => ?_)
            unfold namedB
            have e' : (j : Int) ≠ z := by omega
            simp [e']
          case measure => simp [intOf]; omega
        · go_wp2
          go_roundw
          case rel =>
            refine ⟨k + 1, by omega, by go_num, ?_, unhide HFR, hsz⟩
            rw [unhide HTK]
            refine (unhide HNA).congr (fun j hj => ?_)
            unfold namedB
            have e' : (j : Int) ≠ z := by omega
            simp [e']
          case measure => simp [intOf]; omega
    · have e : l.take k = l := List.take_of_length_le (by omega)
      rw [e] at hna
      have hfl : filesL l = filesK (namedB l) 8 := rfl
      generalize namedB l = f at *
      have c0 := (hna 0 (by omega)).1
      have c1 := (hna 1 (by omega)).1
      have c2 := (hna 2 (by omega)).1
      have c3 := (hna 3 (by omega)).1
      have c4 := (hna 4 (by omega)).1
      have c5 := (hna 5 (by omega)).1
      have c6 := (hna 6 (by omega)).1
      have c7 := (hna 7 (by omega)).1
      have hix : ∀ i : Nat, i < 8 → ∀ w, (Instr.index 128 (.agg #[.bool (f 0), .bool (f 1), .bool (f 2), .bool (f 3), .bool (f 4), .bool (f 5), .bool (f 6), .bool (f 7)]) (.int .i64 (i : Int))).run Tryz.prog w = .ok (.bool (f i)) w := fun i hi w => index_b f i hi w
      have HX := hide hix
      have HFL := hide hfl
      have HFR := hide hf
      clear hix hfl hf hna e
      go_wp2
      generalize hag : (#[.bool (f 0), .bool (f 1), .bool (f 2), .bool (f 3), .bool (f 4), .bool (f 5), .bool (f 6), .bool (f 7)] : Array Value) = A at *
      go_loopw [6, 25] (fun u i wr' => ∃ k : Nat, k ≤ 8 ∧ i = .int .i64 k ∧ OwnI wr' w.heap.size u (filesK f k) ∧ Fr (fun _ => False) w wr' (fun _ => False)) (fun _ i _ => 8 - (intOf i).toNat)
      case atStart => exact ⟨0, Nat.zero_le _, rfl, World.ownsRow_nil _ _ _ _, unhide HFR⟩
      case round =>
        obtain ⟨k, hk, rfl, ho, hf⟩ := hrel
        by_cases hlt : k < 8
        · have ix := fun w => unhide HX k hlt w
          have HSU := hide (filesK_succ f k)
          have HLE := hide (show (filesK f k).length ≤ 1000 by have := filesK_length f k; omega)
          have hsz : w.heap.size ≤ wr.heap.size := hf.size
          have HO := hide ho
          have HNE := hide ho.lt
          have HF := hide hf
          clear ho hf
          cases hfk : f k
          · rw [hfk] at ix
            have HFK := hide hfk
            clear hfk
            go_wp2
            go_roundw
            case rel =>
              refine ⟨k + 1, by omega, by go_num, ?_, unhide HF⟩
              rw [unhide HSU, unhide HFK]
              simpa using unhide HO
            case measure => simp [intOf]; omega
          · rw [hfk] at ix
            have HFK := hide hfk
            clear hfk
            go_wp2_with (at_builtin; refine wpList_int rfl (.tmp 30) (.tmp 32) rfl rfl rfl (unhide HO) (unhide HLE) hsz ?_; intro v' w' o' g')
            go_roundw
            case rel =>
              refine ⟨k + 1, by omega, by go_num, ?_, ((unhide HF).alloc _).grown g' (fun j hj => ((unhide HNE) j hj).1)⟩
              rw [unhide HSU, unhide HFK]
              simpa using o'
            case measure => simp [intOf]; omega
        · obtain rfl : k = 8 := by omega
          go_wp2
          go_ret
          rw [unhide HFL]
          exact ⟨_, rfl, ho, hf⟩
end Go.Proofs.YtfmbebofllgmoaaGreatDoor
namespace Go.Proofs.YtfmbebofllgmoaaGreatDoor
open Go.RowKit
attribute [local go_sem ↓] Go.wp_at_zero Go.wp_at_succ

theorem conv1 (w : World) (g : Nat) (z : Int) (h : w.cell? ⟨g, 0, none⟩ = some (.int .u8 z)) : (convert 54 9 (.slice (some ⟨g, 0, none⟩) 1 1)).run Tryz.prog w = .ok (.string (ByteArray.empty.push (UInt8.ofNat z.toNat))) w := by
  rw [run_convert_bytes_string w 54 9 5 _ _ _ Tryz.underlying54 Tryz.underlying5 Tryz.underlying9]
  refine run_bytesToString w ⟨g, 0, none⟩ 1 1 [z] ?_
  go_simp
set_option maxRecDepth 20000 in
theorem varint_small (n : Nat) (w : World) (h : n < 128) : Calls Tryz.prog 132 #[.int .i64 n] w fun e w' => e = .returned (.string (ByteArray.empty.push (UInt8.ofNat n))) ∧ Fr (fun _ => False) w w' (fun _ => False) := by
  have hlt : (n : Int) < 128 := by omega
  have hwr : IntKind.u8.wrap (n : Int) = n := by simp [IntKind.wrap, IntKind.bits, IntKind.signed]; omega
  have hcv := conv1 (w.alloc (.cells #[.int .u8 n] 5)) w.heap.size n (cell_of_row _ _ 0 _ 5 (0, 0) (heap_alloc_new w _))
  rw [Int.toNat_natCast] at hcv
  go_enter Tryz.func132, Tryz.ntmps132
  go_wp2
  go_ret
  exact ⟨rfl, (Fr.refl _ w).alloc _⟩

def varG : Nat → Nat → ByteArray
  | 0, n => ByteArray.empty.push (UInt8.ofNat n)
  | f + 1, n => if n < 128 then ByteArray.empty.push (UInt8.ofNat n) else ByteArray.empty.push (UInt8.ofNat (n % 128 + 128)) ++ varG f (n / 128)
/-- The bytes of a varint. -/
def varS (n : Nat) : ByteArray := varG n n
theorem varG_more : ∀ (f g n : Nat), n ≤ f → n ≤ g → varG f n = varG g n
  | 0, 0, _, _, _ => rfl
  | 0, g + 1, n, h, _ => by
    have : n = 0 := by omega
    subst this; simp [varG]
  | f + 1, 0, n, _, h => by
    have : n = 0 := by omega
    subst this; simp [varG]
  | f + 1, g + 1, n, h, h' => by
    simp only [varG]
    by_cases hn : n < 128
    · rw [if_pos hn, if_pos hn]
    · rw [if_neg hn, if_neg hn, varG_more f g (n / 128) (by omega) (by omega)]
theorem varS_eq (n : Nat) : varS n = if n < 128 then ByteArray.empty.push (UInt8.ofNat n) else ByteArray.empty.push (UInt8.ofNat (n % 128 + 128)) ++ varS (n / 128) := by
  unfold varS
  cases n with
  | zero => simp [varG]
  | succ m =>
    conv => lhs; unfold varG
    by_cases hn : m + 1 < 128
    · rw [if_pos hn, if_pos hn]
    · rw [if_neg hn, if_neg hn, varG_more m ((m + 1) / 128) ((m + 1) / 128) (by omega) (Nat.le_refl _)]

theorem varS_size (n : Nat) : 1 ≤ (varS n).size ∧ (varS n).size ≤ n + 1 := by
  induction n using Nat.strongRecOn with
  | _ n ih =>
    rw [varS_eq]
    by_cases h : n < 128
    · rw [if_pos h]; simp
    · rw [if_neg h]
      have := ih (n / 128) (by omega)
      simp [ByteArray.size_append]
      omega

set_option maxHeartbeats 1000000 in
set_option maxRecDepth 20000 in
theorem varint_step (n : Nat) (hn : 128 ≤ n) (hm : n < 4611686018427387904) (ih : ∀ w, Calls Tryz.prog 132 #[.int .i64 (n / 128 : Nat)] w fun e w' => e = .returned (.string (varS (n / 128))) ∧ Fr (fun _ => False) w w' (fun _ => False)) (w : World) :
    Calls Tryz.prog 132 #[.int .i64 n] w fun e w' => e = .returned (.string (varS n)) ∧ Fr (fun _ => False) w w' (fun _ => False) := by
  have hlt : ¬ (n : Int) < 128 := by omega
  have hv : varS n = ByteArray.empty.push (UInt8.ofNat (n % 128 + 128)) ++ varS (n / 128) := by rw [varS_eq, if_neg (by omega)]
  have hmod : ((n : Int)).tmod 128 = ((n % 128 : Nat) : Int) := by rw [Int.tmod_eq_emod_of_nonneg (by omega)]; omega
  have hdiv : ((n : Int)).tdiv 128 = ((n / 128 : Nat) : Int) := by rw [Int.tdiv_eq_ediv_of_nonneg (by omega)]; omega
  have hql : n / 128 < 4611686018427387904 := by omega
  have hRs := (varS_size (n / 128)).2
  rw [hv]
  generalize varS (n / 128) = R at *
  generalize n / 128 = q at *
  have hr : n % 128 < 128 := by omega
  generalize n % 128 = r at *
  have hw1 : IntKind.i64.wrap ((r : Int) + 128) = (r : Int) + 128 := by rw [IntKind.wrap_i64]; omega
  have hw3 : IntKind.i64.wrap (q : Int) = q := by rw [IntKind.wrap_i64]; omega
  have hw2 : IntKind.u8.wrap ((r : Int) + 128) = (r : Int) + 128 := by simp [IntKind.wrap, IntKind.bits, IntKind.signed]; omega
  have hcv := fun W g => conv1 W g ((r : Int) + 128)
  have hz : ((r : Int) + 128).toNat = r + 128 := by omega
  rw [hz] at hcv
  generalize hP1 : ByteArray.empty.push (UInt8.ofNat (r + 128)) = P1 at *
  have hsz : ¬ 9223372036854775807 < P1.size + R.size := by
    have : P1.size = 1 := by rw [← hP1]; simp
    omega
  clear hv hz hm hql hP1 hRs
  go_enter Tryz.func132, Tryz.ntmps132
  go_wp2
  go_region_with (go_at_call 132; refine (ih _).mono ?_; rintro e w' ⟨rfl, fr⟩; have ck := fun j hj => fr.cell j 0 hj (fun h => h); have FR := hide fr; clear fr)
  all_goals
    go_wp2
    go_ret
    refine ⟨rfl, ?_⟩
    first
      | exact (((Fr.refl _ w).alloc _).drew.trans (unhide FR))
      | exact ((Fr.refl _ w).drew.trans (unhide FR)).alloc _
      | exact (((Fr.refl _ w).drew.alloc _).trans (unhide FR))

/-- varint of a number that is not below 0. -/
theorem varint_any (n : Nat) (hm : n < 4611686018427387904) : ∀ w : World, Calls Tryz.prog 132 #[.int .i64 n] w fun e w' => e = .returned (.string (varS n)) ∧ Fr (fun _ => False) w w' (fun _ => False) := by
  induction n using Nat.strongRecOn with
  | _ n ih =>
    intro w
    by_cases h : n < 128
    · rw [varS_eq, if_pos h]; exact varint_small n w h
    · exact varint_step n (by omega) hm (fun w => ih (n / 128) (by omega) (by omega) w) w
end Go.Proofs.YtfmbebofllgmoaaGreatDoor
namespace Go.Proofs.YtfmbebofllgmoaaGreatDoor
open Go.RowKit
attribute [local go_sem ↓] Go.wp_at_zero Go.wp_at_succ

def sumStep (z : Int) (b : UInt8) : Int := bits BinOp.xor IntKind.u32 z ((b.toNat : Int) % 4294967296) * 16777619 % 4294967296
def sumZ (l : List UInt8) : Int := l.foldl sumStep 2166136261
def b4 (z : Int) : ByteArray := (((ByteArray.empty.push (UInt8.ofNat (z / 16777216 % 256).toNat)).push (UInt8.ofNat (z / 65536 % 256).toNat)).push (UInt8.ofNat (z / 256 % 256).toNat)).push (UInt8.ofNat (z % 256).toNat)
/-- The four bytes of a sum. -/
def sumS (s : ByteArray) : ByteArray := b4 (sumZ s.data.toList)

theorem conv4 (w : World) (g : Nat) (a b c d : Int) (h0 : w.cell? ⟨g, 0, none⟩ = some (.int .u8 a)) (h1 : w.cell? ⟨g, 1, none⟩ = some (.int .u8 b)) (h2 : w.cell? ⟨g, 2, none⟩ = some (.int .u8 c)) (h3 : w.cell? ⟨g, 3, none⟩ = some (.int .u8 d)) :
    (convert 54 9 (.slice (some ⟨g, 0, none⟩) 4 4)).run Tryz.prog w = .ok (.string ((((ByteArray.empty.push (UInt8.ofNat a.toNat)).push (UInt8.ofNat b.toNat)).push (UInt8.ofNat c.toNat)).push (UInt8.ofNat d.toNat))) w := by
  rw [run_convert_bytes_string w 54 9 5 _ _ _ Tryz.underlying54 Tryz.underlying5 Tryz.underlying9]
  refine run_bytesToString w ⟨g, 0, none⟩ 4 4 [a, b, c, d] ?_
  go_simp

theorem sumZ_succ (l : List UInt8) (k : Nat) (h : k < l.length) : sumZ (l.take (k + 1)) = sumStep (sumZ (l.take k)) l[k] := by
  unfold sumZ
  rw [List.take_succ_eq_append_getElem h, List.foldl_append]
  rfl

def SumRel (s : ByteArray) (w : World) (h i : Value) (wr : World) : Prop := wr = w ∧ ∃ k : Nat, k ≤ s.size ∧ i = .int .i64 k ∧ h = .int .u32 (sumZ (s.data.toList.take k))

set_option maxHeartbeats 1000000 in
set_option maxRecDepth 20000 in
theorem sum_any (s : ByteArray) (hs : s.size < 4611686018427387904) (w : World) : Calls Tryz.prog 76 #[.string s] w fun e w' => e = .returned (.string (sumS s)) ∧ Fr (fun _ => False) w w' (fun _ => False) := by
  go_enter Tryz.func76, Tryz.ntmps76
  go_wp2
  go_loopw [3, 4] (fun h i wr => SumRel s w h i wr) (fun _ i _ => s.size - (intOf i).toNat)
  case atStart => exact ⟨rfl, 0, Nat.zero_le _, rfl, rfl⟩
  case round =>
    obtain ⟨rfl, k, hk, rfl, rfl⟩ := hrel
    by_cases hlt : k < s.size
    · have hz := sumZ_succ s.data.toList k (by rw [Array.length_toList]; exact hlt)
      have HZ := hide hz
      clear hz
      generalize sumZ (s.data.toList.take k) = z at *
      go_wp2
      go_roundw
      case rel =>
        refine ⟨rfl, k + 1, hlt, by go_num, ?_⟩
        rw [unhide HZ]
        rfl
      case measure => simp [intOf]; omega
    · have e : s.data.toList.take k = s.data.toList := List.take_of_length_le (by rw [Array.length_toList]; exact Nat.le_of_not_lt hlt)
      have hS : sumS s = b4 (sumZ s.data.toList) := rfl
      rw [e]
      generalize sumZ s.data.toList = z at *
      have hrow := heap_alloc_new wr (.cells #[.int .u8 (z / 16777216 % 256), .int .u8 (z / 65536 % 256), .int .u8 (z / 256 % 256), .int .u8 (z % 256)] 5)
      have hcv := conv4 (wr.alloc (.cells #[.int .u8 (z / 16777216 % 256), .int .u8 (z / 65536 % 256), .int .u8 (z / 256 % 256), .int .u8 (z % 256)] 5)) wr.heap.size _ _ _ _ (cell_of_row _ _ 0 _ 5 (0, 0) hrow) (cell_of_row _ _ 1 _ 5 (0, 0) hrow) (cell_of_row _ _ 2 _ 5 (0, 0) hrow) (cell_of_row _ _ 3 _ 5 (0, 0) hrow)
      change _ = Result.ok (Value.string (b4 z)) _ at hcv
      generalize b4 z = R at *
      have HS := hide hS
      clear hrow hS e
      go_wp2
      go_ret
      rw [unhide HS]
      exact ⟨rfl, (Fr.refl _ wr).alloc _⟩

/-- A record: length, body, sum. -/
def frameS (s : ByteArray) : ByteArray := varS s.size ++ s ++ sumS s
set_option maxHeartbeats 1000000 in
set_option maxRecDepth 20000 in
theorem frame_any (s : ByteArray) (hs : s.size < 1000000) (w : World) : Calls Tryz.prog 130 #[.string s] w fun e w' => e = .returned (.string (frameS s)) ∧ Fr (fun _ => False) w w' (fun _ => False) := by
  have h1 := varint_any s.size (by omega)
  have h2 := sum_any s (by omega)
  have hv := (varS_size s.size).2
  have h4 : (sumS s).size = 4 := by unfold sumS b4; simp
  have hf : frameS s = varS s.size ++ s ++ sumS s := rfl
  generalize varS s.size = V at *
  generalize sumS s = U at *
  generalize frameS s = R at *
  have hz1 : ¬ 9223372036854775807 < V.size + s.size := by omega
  have hz2 : ¬ 9223372036854775807 < V.size + s.size + U.size := by omega
  have HF := hide hf
  clear hv h4 hs hf
  go_enter Tryz.func130, Tryz.ntmps130
  go_wp2_with (first | (go_at_call 132; refine (h1 _).mono ?_; rintro e w1 ⟨rfl, f1⟩; have F1 := hide f1; clear f1) | (go_at_call 76; refine (h2 _).mono ?_; rintro e w2 ⟨rfl, f2⟩; have F2 := hide f2; clear f2))
  go_ret
  rw [unhide HF]
  exact ⟨rfl, (unhide F1).trans (unhide F2)⟩
end Go.Proofs.YtfmbebofllgmoaaGreatDoor
namespace Go.Proofs.YtfmbebofllgmoaaGreatDoor
open Go.RowKit
attribute [local go_sem ↓] Go.wp_at_zero Go.wp_at_succ

def one (k : Nat) : ByteArray := ByteArray.empty.push (UInt8.ofNat k)
/-- A body of kind, of and n. -/
def bodyS (k : Nat) (o n : Nat) : ByteArray := if k = 3 ∨ k = 4 then one k ++ varS o ++ varS n else one k ++ varS n
/-- Files, one behind the other. -/
def filesS (l : List Int) (r : ByteArray) : ByteArray := l.foldl (fun r z => r ++ varS z.toNat) r
/-- A body of files. -/
def batchS (l : List Int) : ByteArray := filesS l (one 2 ++ varS l.length)

theorem varS_small (n : Nat) (h : n < 4611686018427387904) : (varS n).size ≤ 64 := by
  have g : ∀ (k n : Nat), n < 128 ^ k → (varS n).size ≤ k + 1 := by
    intro k
    induction k with
    | zero => intro n hn; have : n = 0 := by omega
              subst this; rw [varS_eq, if_pos (by omega)]; simp
    | succ k ih =>
      intro n hn
      rw [varS_eq]
      by_cases h : n < 128
      · rw [if_pos h]; simp
      · rw [if_neg h]
        have := ih (n / 128) (by rw [Nat.pow_succ] at hn; omega)
        simp [ByteArray.size_append]
        omega
  have := g 9 n (by omega)
  omega

set_option maxHeartbeats 1000000 in
set_option maxRecDepth 20000 in
/-- Clocks and ends. -/
theorem body_one (k : Nat) (o n : Nat) (fv : Value) (a : Option Addr) (l c : Nat) (hfv : fv = .slice a l c) (hk : k = 1 ∨ k = 5) (hn : n < 4611686018427387904) (w : World) :
    Calls Tryz.prog 112 #[.agg #[.int .i64 k, .int .i64 o, .int .i64 n, fv]] w fun e w' => e = .returned (.string (bodyS k o n)) ∧ Fr (fun _ => False) w w' (fun _ => False) := by
  subst hfv
  have h1 := varint_any n hn
  have hs := varS_small n hn
  have hb : bodyS k o n = one k ++ varS n := by unfold bodyS; rw [if_neg (by omega)]
  have hz : ¬ 9223372036854775807 < (one k).size + (varS n).size := by
    have : (one k).size = 1 := by unfold one; simp
    omega
  have hwr : IntKind.u8.wrap (k : Int) = k := by rcases hk with rfl | rfl <;> rfl
  have hk2 : ((k : Int) == 2) = false := by rcases hk with rfl | rfl <;> rfl
  have hk3 : ((k : Int) == 3) = false := by rcases hk with rfl | rfl <;> rfl
  have hk4 : ((k : Int) == 4) = false := by rcases hk with rfl | rfl <;> rfl
  have hcv : ∀ W : World, ∀ g, W.cell? ⟨g, 0, none⟩ = some (.int .u8 k) → (convert 54 9 (.slice (some ⟨g, 0, none⟩) 1 1)).run Tryz.prog W = .ok (.string (one k)) W := fun W g h => by
    have := conv1 W g k h
    rw [Int.toNat_natCast] at this
    exact this
  generalize varS n = V at *
  generalize one k = O at *
  have HB := hide hb
  clear hb hs hk hn
  go_enter Tryz.func112, Tryz.ntmps112
  go_wp2_with (go_at_call 132; refine (h1 _).mono ?_; rintro e w1 ⟨rfl, f1⟩; have F1 := hide f1; clear f1)
  go_ret
  rw [unhide HB]
  exact ⟨rfl, (((Fr.refl _ w).alloc _).alloc _).trans (unhide F1)⟩

set_option maxHeartbeats 1000000 in
set_option maxRecDepth 20000 in
/-- Picks and lots. -/
theorem body_two (k : Nat) (o n : Nat) (fv : Value) (a : Option Addr) (l c : Nat) (hfv : fv = .slice a l c) (hk : k = 3 ∨ k = 4) (hn : n < 4611686018427387904) (ho : o < 4611686018427387904) (w : World) :
    Calls Tryz.prog 112 #[.agg #[.int .i64 k, .int .i64 o, .int .i64 n, fv]] w fun e w' => e = .returned (.string (bodyS k o n)) ∧ Fr (fun _ => False) w w' (fun _ => False) := by
  subst hfv
  have h1 := varint_any n hn
  have h2 := varint_any o ho
  have hs := varS_small n hn
  have hs2 := varS_small o ho
  have hb : bodyS k o n = one k ++ varS o ++ varS n := by unfold bodyS; rw [if_pos hk]
  have h1s : (one k).size = 1 := by unfold one; simp
  have hz : ¬ 9223372036854775807 < (one k).size + (varS o).size := by omega
  have hz2 : ¬ 9223372036854775807 < (one k).size + (varS o).size + (varS n).size := by omega
  have hwr : IntKind.u8.wrap (k : Int) = k := by rcases hk with rfl | rfl <;> rfl
  have hk2 : ((k : Int) == 2) = false := by rcases hk with rfl | rfl <;> rfl
  have hcv : ∀ W : World, ∀ g, W.cell? ⟨g, 0, none⟩ = some (.int .u8 k) → (convert 54 9 (.slice (some ⟨g, 0, none⟩) 1 1)).run Tryz.prog W = .ok (.string (one k)) W := fun W g h => by
    have := conv1 W g k h
    rw [Int.toNat_natCast] at this
    exact this
  have hc1 : ∀ m : Nat, m < 4611686018427387904 → ∀ W : World, Fr (fun _ => False) w W (fun _ => False) → Calls Tryz.prog 132 #[.int .i64 m] W fun e w' => e = .returned (.string (varS m)) ∧ Fr (fun _ => False) W w' (fun _ => False) ∧ Fr (fun _ => False) w w' (fun _ => False) := fun m hm W hW => (varint_any m hm W).mono fun _ _ ⟨he, hf⟩ => ⟨he, hf, hW.trans hf⟩
  have F1 := hide (((Fr.refl (fun _ => False) w).alloc (.cells #[.int .i64 k, .int .i64 o, .int .i64 n, .slice a l c] 49)).alloc (.cells #[.int .u8 k] 5))
  generalize one k = O at *
  generalize hvS : varS = vS at *
  have HB := hide hb
  have HN := hide hn
  have HO := hide ho
  have HC := hide hc1
  clear hb hs hs2 h1s h1 h2 hc1 hvS hn ho
  rcases hk with rfl | rfl
  · have hk3 : (((3 : Nat) : Int) == 3) = true := rfl
    go_enter Tryz.func112, Tryz.ntmps112
    go_wp2
    go_region_with (go_at_call 132; refine (unhide HC _ (by first | exact unhide HO | exact unhide HN) _ (by first | exact unhide F1 | exact (unhide F1).drew)).mono ?_; rintro e w1 ⟨rfl, f1, f2⟩; have ck := fun j q hj => f1.cell j q hj (fun h => h); have F1 := hide f2; clear f1 f2)
    all_goals
      go_wp2
      refine bodyPost_ret (v := .string (O ++ vS o ++ vS n)) (by simp [results, Tryz.results112, go_sem, Act.put]) rfl ?_
      rw [unhide HB]
      exact ⟨rfl, by first | exact unhide F1 | exact (unhide F1).drew⟩
  · have hk3 : (((4 : Nat) : Int) == 3) = false := rfl
    have hk4 : (((4 : Nat) : Int) == 4) = true := rfl
    go_enter Tryz.func112, Tryz.ntmps112
    go_wp2
    go_region_with (go_at_call 132; refine (unhide HC _ (by first | exact unhide HO | exact unhide HN) _ (by first | exact unhide F1 | exact (unhide F1).drew)).mono ?_; rintro e w1 ⟨rfl, f1, f2⟩; have ck := fun j q hj => f1.cell j q hj (fun h => h); have F1 := hide f2; clear f1 f2)
    all_goals
      go_wp2
      refine bodyPost_ret (v := .string (O ++ vS o ++ vS n)) (by simp [results, Tryz.results112, go_sem, Act.put]) rfl ?_
      rw [unhide HB]
      exact ⟨rfl, by first | exact unhide F1 | exact (unhide F1).drew⟩

theorem filesS_succ (l : List Int) (r : ByteArray) (k : Nat) (h : k < l.length) : filesS (l.take (k + 1)) r = filesS (l.take k) r ++ varS l[k].toNat := by
  unfold filesS
  rw [List.take_succ_eq_append_getElem h, List.foldl_append]
  rfl
theorem after_two {w w1 : World} {S' : Nat → Prop} {o1 o2 : Obj} (f1 : Fr (fun _ => False) ((w.alloc o1).alloc o2) w1 S') : w.heap.size < w1.heap.size := by
  have := f1.size
  simp at this
  omega
theorem box_three {w w1 : World} {S' : Nat → Prop} {o2 : Obj} {x0 x1 x2 x3 : Value} (f1 : Fr (fun _ => False) ((w.alloc (.cells #[x0, x1, x2, x3] 49)).alloc o2) w1 S') : w1.cell? ⟨w.heap.size, 3, none⟩ = some x3 := by
  have z3 : (w.alloc (.cells #[x0, x1, x2, x3] 49)).heap.size = w.heap.size + 1 := by simp
  have h1 : ((w.alloc (.cells #[x0, x1, x2, x3] 49)).alloc o2).heap[w.heap.size]? = some (.cells #[x0, x1, x2, x3] 49) := (Below.heap_alloc _ _ _ (by rw [z3]; omega)).trans (heap_alloc_new w _)
  rw [f1.cell _ _ (by simp; omega) (fun h => h)]
  exact cell_of_row _ _ 3 _ 49 (0, 0) h1
def BodyRel (l : List Int) (r0 : ByteArray) (w : World) (u i : Value) (wr : World) : Prop := ∃ (k : Nat), k ≤ l.length ∧ i = .int .i64 k ∧ u = .string (filesS (l.take k) r0) ∧ (filesS (l.take k) r0).size ≤ 100 + 64 * k ∧ Fr (fun _ => False) w wr (fun _ => False)

set_option maxHeartbeats 1000000 in
set_option maxRecDepth 20000 in
/-- Batches. -/
theorem body_files (o n : Int) (fv : Value) (l : List Int) {P : Nat → Prop} (w : World) (hP : ∀ q, P q → q < w.heap.size) (hl : IntsIn w fv l P) (h8 : l.length ≤ 8) (hz : ∀ z, z ∈ l → 0 ≤ z ∧ z < 8) :
    Calls Tryz.prog 112 #[.agg #[.int .i64 2, .int .i64 o, .int .i64 n, fv]] w fun e w' => e = .returned (.string (batchS l)) ∧ Fr (fun _ => False) w w' (fun _ => False) := by
  obtain ⟨a, c, rfl, hc⟩ := hl
  have hlen : l.length < 4611686018427387904 := by omega
  have hs2 := varS_small l.length hlen
  have h1s : (one 2).size = 1 := by unfold one; simp
  have hzz : ¬ 9223372036854775807 < (one 2).size + (varS l.length).size := by omega
  have hr0 : (one 2 ++ varS l.length).size ≤ 100 := by rw [ByteArray.size_append]; omega
  have hcv : ∀ W : World, ∀ g, W.cell? ⟨g, 0, none⟩ = some (.int .u8 2) → (convert 54 9 (.slice (some ⟨g, 0, none⟩) 1 1)).run Tryz.prog W = .ok (.string (one 2)) W := fun W g h => conv1 W g 2 h
  have hbs : batchS l = filesS l (one 2 ++ varS l.length) := rfl
  have h1 := varint_any l.length hlen
  have h2 : ∀ m : Nat, m < 8 → ∀ W, Calls Tryz.prog 132 #[.int .i64 m] W fun e w' => e = .returned (.string (varS m)) ∧ Fr (fun _ => False) W w' (fun _ => False) := fun m hm => varint_any m (by omega)
  have h3 : ∀ m : Nat, m < 8 → (varS m).size ≤ 64 := fun m hm => varS_small m (by omega)
  generalize one 2 = O at *
  generalize hvl : varS l.length = V at *
  have HC := hide hc
  have HP := hide hP
  have HZ := hide hz
  have H2 := hide h2
  have H3 := hide h3
  have HR0 := hide hr0
  have HBS := hide hbs
  clear hc hP hz h2 h3 hr0 hbs hs2 h1s hvl hlen
  go_enter Tryz.func112, Tryz.ntmps112
  go_wp2_with (go_at_call 132; refine (h1 _).mono ?_; rintro e w1 ⟨rfl, f1⟩; have C3 := hide (box_three f1); have F1 := hide ((((Fr.refl (fun _ => False) w).alloc _).alloc _).trans f1); have hsz := after_two f1; clear f1)
  go_loopw [3, 4] (fun u i wr => BodyRel l (O ++ V) w1 u i wr) (fun _ i _ => l.length - (intOf i).toNat)
  case atStart => exact ⟨0, Nat.zero_le _, rfl, rfl, unhide HR0, Fr.refl _ w1⟩
  case round =>
    obtain ⟨k, hk, rfl, rfl, hsize, hf⟩ := hrel
    have c3 := (hf.cell w.heap.size 3 hsz (fun h => h)).trans (unhide C3)
    by_cases hlt : k < l.length
    · rcases unhide HC with hz | ⟨q, off, rfl, hq, hcell⟩
      · rw [hz] at hlt; simp at hlt
      have cz := (((unhide F1).trans hf).cell q (off + k) (unhide HP q hq) (fun h => h)).trans (hcell k hlt)
      have hget : l.getD k 0 = l[k] := by simp [List.getD, hlt]
      rw [hget] at cz
      have HSU := hide (filesS_succ l (O ++ V) k hlt)
      obtain ⟨z0, z8⟩ := unhide HZ l[k] (List.getElem_mem hlt)
      have HF := hide hf
      clear hcell hget hf
      generalize l[k] = z at *
      obtain ⟨m, rfl⟩ : ∃ m : Nat, z = m := ⟨z.toNat, by omega⟩
      have hvs := unhide H3 m (by omega)
      have h7 := unhide H2 m (by omega)
      rw [Int.toNat_natCast] at HSU
      generalize varS m = U at *
      generalize filesS (l.take k) (O ++ V) = R at *
      have hzR : ¬ 9223372036854775807 < R.size + U.size := by omega
      have HSZ := hide hsize
      have HVS := hide hvs
      clear hsize hvs
      go_wp2_with (go_at_call 132; refine (h7 _).mono ?_; rintro e w2 ⟨rfl, f2⟩; have F2 := hide f2; clear f2)
      go_roundw
      case rel =>
        have h5 := unhide HSZ
        have h6 := unhide HVS
        refine ⟨k + 1, by omega, by go_num, by rw [unhide HSU], by rw [unhide HSU, ByteArray.size_append]; omega, (unhide HF).trans (unhide F2)⟩
      case measure => simp [intOf]; omega
    · have e : l.take k = l := List.take_of_length_le (by omega)
      rw [e] at hsize ⊢
      have hb := unhide HBS
      generalize filesS l (O ++ V) = R at *
      have HB := hide hb
      clear hb hsize e
      go_wp2
      go_ret
      rw [unhide HB]
      exact ⟨rfl, (unhide F1).trans hf⟩
end Go.Proofs.YtfmbebofllgmoaaGreatDoor
namespace Go.Proofs.YtfmbebofllgmoaaGreatDoor
open Go.RowKit
attribute [local go_sem ↓] Go.wp_at_zero Go.wp_at_succ

/-- The block of a slice's own row. -/
def own (v : Value) (k : Nat) : Prop := v.ownBlock = some k
/-- The cells of bytes. -/
def u8s (b : ByteArray) : List Value := b.data.toList.map fun x => Value.int .u8 (x.toNat : Int)
/-- A slice of bytes that is nobody else's. -/
def OwnB (w : World) (B : Nat) (v : Value) (b : ByteArray) : Prop :=
  w.ownsRow B 5 1 v b.size (u8s b) ∨ (∃ g, v = .slice (some ⟨g, 0, none⟩) b.size b.size ∧ B ≤ g ∧ g < w.heap.size ∧ ∀ j u, (u8s b)[j]? = some u → w.cell? ⟨g, 0 + j, none⟩ = some u)
theorem addr_add (g off j : Nat) : (⟨g, off, none⟩ : Addr).add j = ⟨g, off + j, none⟩ := by
  unfold Addr.add
  split
  · subst_vars; rfl
  · rfl
theorem OwnB.bump {w : World} {B : Nat} {v : Value} {b : ByteArray} (h : OwnB w B v b) : ∀ k, own v k → B ≤ k ∧ k < w.heap.size := by
  intro k hk
  rcases h with h | ⟨g, rfl, h1, h2, _⟩
  · exact World.ownsRow.lt h k hk
  · simp only [own, Value.ownBlock, Option.some.injEq] at hk
    subst hk
    exact ⟨h1, h2⟩
theorem OwnB.block {w w' : World} {B : Nat} {v : Value} {b : ByteArray} (h : OwnB w B v b) (hb : ∀ q, own v q → w'.heap[q]? = w.heap[q]?) : OwnB w' B v b := by
  rcases h with h | ⟨g, rfl, h1, h2, h3⟩
  · exact .inl (ownsRow_of_block h hb)
  · have e := hb g rfl
    refine .inr ⟨g, rfl, h1, ?_, fun j u hj => ?_⟩
    · rw [Array.getElem?_eq_getElem h2] at e
      exact (Array.getElem?_eq_some_iff.1 e).1
    · rw [World.cell?_of_block (w := w) (a := ⟨g, 0 + j, none⟩) e]
      exact h3 j u hj
theorem OwnB.alloc {w : World} {B : Nat} {v : Value} {b : ByteArray} (h : OwnB w B v b) (o : Obj) : OwnB (w.alloc o) B v b := h.block fun q hq => Below.heap_alloc _ _ _ (h.bump q hq).2
theorem OwnB.shape {w : World} {B : Nat} {v : Value} {b : ByteArray} (h : OwnB w B v b) : ∃ a n c, v = .slice a n c := by
  rcases h with h | ⟨g, rfl, _⟩
  · rcases h.2 with ⟨h1, _⟩ | ⟨g, cap, cur, hv, _⟩
    · exact ⟨_, _, _, h1⟩
    · exact ⟨_, _, _, hv⟩
  · exact ⟨_, _, _, rfl⟩
theorem OwnB.low {w : World} {B B' : Nat} {v : Value} {b : ByteArray} (h : OwnB w B v b) (hB : B' ≤ B) : OwnB w B' v b := by
  rcases h with h | ⟨g, h0, h1, h2⟩
  · exact .inl ⟨h.1, h.2.imp id fun ⟨g, cap, cur, e1, e2, r⟩ => ⟨g, cap, cur, e1, by omega, r⟩⟩
  · exact .inr ⟨g, h0, by omega, h2⟩
theorem u8s_length (b : ByteArray) : (u8s b).length = b.size := by simp [u8s]
theorem u8s_append (a b : ByteArray) : u8s (a ++ b) = u8s a ++ u8s b := by simp [u8s]
theorem info5 : ∃ i, Tryz.prog.info? 5 = some i ∧ i.zero = some (.int .u8 0) ∧ i.size = 1 ∧ i.bytes = 1 := by
  have h : (Tryz.prog.info? 5).map (fun i => (i.zero, i.size, i.bytes)) = some (some (.int .u8 0), 1, 1) := by kernel_rfl
  obtain ⟨i, hi, hb⟩ := Option.map_eq_some_iff.1 h
  injection hb with h1 h2
  injection h2 with h2 h3
  exact ⟨i, hi, h1, h2, h3⟩

/-- Bytes are put behind a slice's own. -/
theorem wpList_bytes {ops : Array Oper} {rest : List Oper} {o : Oper} {a : Act} {Q : Exit → Act → World → Prop} {w : World} {B : Nat} {v : Value} {b c : ByteArray} (hgd : o.guard = none) (sv xv : Operand)
    (ho : o.op = .call { callee := .builtin .append, args := #[sv, xv], argTypes := #[54, 54] }) {ad : Addr} {cap : Nat}
    (hs : a.eval sv = v) (hx : a.eval xv = .slice (some ad) c.size cap) (hrow : OwnB w B v b) (hc : ∀ j u, (u8s c)[j]? = some u → w.cell? (ad.add j) = some u) (h0 : 0 < c.size) (hn : b.size + c.size ≤ 1000000000) (hB : B ≤ w.heap.size)
    (h : ∀ v' w', OwnB w' B v' (b ++ c) → Fr (own v) w w' (own v') → wpList Tryz.prog ops Q rest (a.put o.dst v') w') : wpList Tryz.prog ops Q (o :: rest) a w := by
  obtain ⟨i, hi, hz, hs1, hby⟩ := info5
  have hm : b.size + c.size ≤ maxLen := by simp only [maxLen]; omega
  rcases hrow with hrow | ⟨g0, hg0, hgB, hgl, hgc⟩
  · refine wpList_append_lies _ hgd sv xv 54 ho B 5 i _ 1 1 Tryz.underlying54 hi hz hs1 hby rfl (by omega) v b.size _ hs hrow ad c.size cap (u8s c) hx (by rw [u8s_length]; omega) hc (by simp [u8s, Value.oneCell']) h0 hm (by omega) hB w.heap.size rfl ?_
    intro g cp w' h1 h2 h3 h4
    refine h _ w' ?_ ?_
    · refine .inl ?_
      rw [ByteArray.size_append, u8s_append]
      exact h1
    · refine ⟨h2.os, h2.tape, h2.output, h2.size, fun k hk hn => h2.block k hk (fun e => hn e.symm), ?_⟩
      intro k hk e
      simp only [own, Value.ownBlock, Option.some.injEq] at e
      subst e
      rcases h3 with h3 | h3
      · exact h3
      · omega
  · subst hg0
    refine wpList_plain hgd fun K hK => ?_
    obtain ⟨v', w', hr, h1, h2⟩ := run_append_arg_grows (P := Tryz.prog) w 54 o.type 5 i _ 1 1 Tryz.underlying54 hi hz hs1 hby rfl (by omega) ⟨g0, 0, none⟩ b.size b.size (u8s b) (by rw [u8s_length]; omega) (fun j u hj => by rw [addr_add]; exact hgc j u hj) ad c.size cap (u8s c) (by rw [u8s_length]; omega) hc (by omega) hm (by omega)
    unfold Oper.wp execOp
    simp only [ho, resolve, invoke, builtin, Sem.run_bind, Sem.run_pure, Result.andThen_ok, List.map_toArray, List.map_cons, List.map_nil, hs, hx, hr]
    refine hK _ _ (h v' w' (.inl ?_) ?_)
    · rw [ByteArray.size_append, u8s_append]
      exact ⟨h1.1, h1.2.imp id fun ⟨g, cap, cur, e1, e2, r⟩ => ⟨g, cap, cur, e1, by omega, r⟩⟩
    · refine ⟨h2.os, h2.tape, h2.output, h2.size, fun k hk _ => h2.block k hk (by simp), fun k hk e => ?_⟩
      have := (World.ownsRow.lt h1 k e).1
      omega

theorem u8_nat (z : Int) (h0 : 0 ≤ z) (h1 : z < 256) : ((UInt8.ofNat z.toNat).toNat : Int) = z := by
  rw [UInt8.toNat_ofNat']
  omega
theorem push_eq (b : ByteArray) (x : UInt8) : b ++ ByteArray.empty.push x = b.push x := by
  apply ByteArray.ext
  simp
/-- One byte is put behind a slice's own. -/
theorem wpList_byte {ops : Array Oper} {rest : List Oper} {o : Oper} {a : Act} {Q : Exit → Act → World → Prop} {w : World} {B : Nat} {v : Value} {b : ByteArray} (hgd : o.guard = none) (sv xv : Operand)
    (ho : o.op = .call { callee := .builtin .append, args := #[sv, xv], argTypes := #[54, 54] }) {z : Int}
    (hs : a.eval sv = v) (hx : a.eval xv = .slice (some ⟨w.heap.size, 0, none⟩) 1 1) (hrow : OwnB w B v b) (h0 : 0 ≤ z) (h1 : z < 256) (hn : b.size ≤ 999999999) (hB : B ≤ w.heap.size)
    (h : ∀ v' w', OwnB w' B v' (b.push (UInt8.ofNat z.toNat)) → Fr (own v) w w' (own v') → wpList Tryz.prog ops Q rest (a.put o.dst v') w') : wpList Tryz.prog ops Q (o :: rest) a (w.alloc (.cells #[.int .u8 z] 5)) := by
  refine wpList_bytes (c := ByteArray.empty.push (UInt8.ofNat z.toNat)) hgd sv xv ho hs (by simpa using hx) (hrow.alloc _) ?_ (by simp) (by simp; omega) (by simp; omega) ?_
  · intro j u hu
    have hl : u8s (ByteArray.empty.push (UInt8.ofNat z.toNat)) = [.int .u8 z] := by simp [u8s]; omega
    rw [hl] at hu
    cases j with
    | zero =>
      simp at hu
      subst hu
      exact cell_of_row _ _ 0 _ 5 (0, 0) (heap_alloc_new _ _)
    | succ j => simp at hu
  · intro v' w' h2 h3
    refine h v' w' (by rwa [push_eq] at h2) ⟨h3.os, h3.tape, h3.output, Nat.le_trans (by simp) h3.size, fun k hk hn => (h3.same k (by simp; omega) hn).trans (Below.heap_alloc _ _ _ hk), fun k hk e => h3.old k (by simp; omega) e⟩


set_option maxHeartbeats 1000000 in
set_option maxRecDepth 20000 in
/-- The varint of n is put behind b. -/
theorem appendVarint_any {w : World} {B : Nat} {v : Value} {b : ByteArray} (h : OwnB w B v b) (n : Nat) (hn : n < 4611686018427387904) (hb : b.size + (varS n).size ≤ 1000000000) (hB : B ≤ w.heap.size) :
    Calls Tryz.prog 103 #[v, .int .i64 n] w fun e w' => ∃ v', e = .returned v' ∧ OwnB w' B v' (b ++ varS n) ∧ Fr (own v) w w' (own v') := by
  have H := hide h
  clear h
  go_enter Tryz.func103, Tryz.ntmps103
  go_wp2
  go_loopw [0, 1] (fun u i wr => ∃ (m : Nat) (c : ByteArray), i = .int .i64 m ∧ m < 4611686018427387904 ∧ c ++ varS m = b ++ varS n ∧ OwnB wr B u c ∧ Fr (own v) w wr (own u)) (fun _ i _ => (intOf i).toNat)
  case atStart => exact ⟨n, b, rfl, hn, rfl, unhide H, Fr.refl _ _⟩
  case round =>
    obtain ⟨m, c, rfl, hm, he, ho, hf⟩ := hrel
    have hcs : c.size + (varS m).size ≤ 1000000000 := by rw [← ByteArray.size_append, he, ByteArray.size_append]; exact hb
    have h1s := (varS_size m).1
    have HE := hide he
    have HO := hide ho
    have HF := hide hf
    have hBw : B ≤ wr.heap.size := Nat.le_trans hB hf.size
    clear he ho hf
    by_cases hlt : m < 128
    · have hv : varS m = ByteArray.empty.push (UInt8.ofNat m) := by rw [varS_eq, if_pos hlt]
      have hge : ¬ (128 : Int) ≤ m := by omega
      have hw2 : IntKind.u8.wrap (m : Int) = m := by simp [IntKind.wrap, IntKind.bits, IntKind.signed]; omega
      have HV := hide hv
      have HL := hide (show c.size ≤ 999999999 by omega)
      clear hv hcs h1s
      go_wp2_with (at_builtin; refine wpList_byte rfl (.tmp 16) (.tmp 19) rfl rfl rfl (unhide HO) (show (0 : Int) ≤ m by omega) (show (m : Int) < 256 by omega) (unhide HL) hBw ?_; intro v' w' o' f'; have O' := hide o'; have F' := hide f'; clear o' f')
      go_ret
      refine ⟨_, rfl, ?_, (unhide HF).trans (unhide F')⟩
      rw [← unhide HE, unhide HV, push_eq]
      exact unhide O'
    · have hv : varS m = ByteArray.empty.push (UInt8.ofNat (m % 128 + 128)) ++ varS (m / 128) := by rw [varS_eq, if_neg hlt]
      have hge : (128 : Int) ≤ m := by omega
      have hmod : ((m : Int)).tmod 128 = ((m % 128 : Nat) : Int) := by rw [Int.tmod_eq_emod_of_nonneg (by omega)]; omega
      have hdiv : ((m : Int)).tdiv 128 = ((m / 128 : Nat) : Int) := by rw [Int.tdiv_eq_ediv_of_nonneg (by omega)]; omega
      have hql : m / 128 < m := by omega
      have hr : m % 128 < 128 := by omega
      have HV := hide hv
      have HL := hide (show c.size ≤ 999999999 by omega)
      clear hv hcs h1s
      generalize hQ : m / 128 = q at *
      generalize m % 128 = r at *
      have hw1 : IntKind.i64.wrap ((r : Int) + 128) = (r : Int) + 128 := by rw [IntKind.wrap_i64]; omega
      have hw3 : IntKind.i64.wrap (q : Int) = q := by rw [IntKind.wrap_i64]; omega
      have hw2 : IntKind.u8.wrap ((r : Int) + 128) = (r : Int) + 128 := by simp [IntKind.wrap, IntKind.bits, IntKind.signed]; omega
      go_wp2_with (at_builtin; refine wpList_byte rfl (.tmp 7) (.tmp 12) rfl rfl rfl (unhide HO) (show (0 : Int) ≤ (r : Int) + 128 by omega) (show (r : Int) + 128 < 256 by omega) (unhide HL) hBw ?_; intro v' w' o' f'; have O' := hide o'; have F' := hide f'; clear o' f')
      go_roundw
      case rel =>
        refine ⟨q, _, rfl, by omega, ?_, unhide O', (unhide HF).trans (unhide F')⟩
        rw [← unhide HE, unhide HV, ← push_eq, ByteArray.append_assoc]
        rfl
      case measure => simp [intOf]; omega

/-- Bytes in memory that may be read. -/
def BytesAt (w : World) (v : Value) (b : ByteArray) : Prop := ∃ g off cap, v = .slice (some ⟨g, off, none⟩) b.size cap ∧ ∀ j u, (u8s b)[j]? = some u → w.cell? ⟨g, off + j, none⟩ = some u
theorem OwnB.bytes {w : World} {B : Nat} {v : Value} {b : ByteArray} (h : OwnB w B v b) (h0 : 0 < b.size) : ∃ g cap, v = .slice (some ⟨g, 0, none⟩) b.size cap ∧ B ≤ g ∧ (∀ j u, (u8s b)[j]? = some u → w.cell? ⟨g, 0 + j, none⟩ = some u) := by
  rcases h with h | ⟨g, hv, hB, _, hc⟩
  case inr => exact ⟨g, _, hv, hB, hc⟩
  rcases h.2 with ⟨_, h1⟩ | ⟨g, cap, cur, hv, hB, hg, h1, h2, h3, h4⟩
  · omega
  refine ⟨g, cap, hv, hB, fun j u hj => ?_⟩
  rw [Nat.zero_add, cell_of_row w g j cur 5 (0, 0) hg]
  rw [← h4, List.getElem?_take] at hj
  split at hj
  · rw [Array.getElem?_toList] at hj; exact hj
  · cases hj
theorem OwnB.at {w : World} {B : Nat} {v : Value} {b : ByteArray} (h : OwnB w B v b) (h0 : 0 < b.size) : BytesAt w v b := by
  obtain ⟨g, cap, hv, _, hc⟩ := h.bytes h0
  exact ⟨g, 0, cap, hv, hc⟩
theorem u8s_get (b : ByteArray) (j : Nat) (h : j < b.size) : (u8s b)[j]? = some (.int .u8 ((b.data.toList[j]'(by simpa using h)).toNat : Int)) := by
  have hj : j < b.data.toList.length := by simpa using h
  rw [u8s, List.getElem?_map, List.getElem?_eq_getElem hj]
  rfl

set_option maxHeartbeats 1000000 in
set_option maxRecDepth 20000 in
/-- The sum of bytes. -/
theorem psum_any {w : World} {v : Value} {b : ByteArray} (h : BytesAt w v b) (hs : b.size ≤ 1000000000) : Calls Tryz.prog 121 #[v] w fun e w' => e = .returned (.int .u32 (sumZ b.data.toList)) ∧ w' = w := by
  obtain ⟨g, off, cap, rfl, hc⟩ := h
  have HC := hide hc
  clear hc
  go_enter Tryz.func121, Tryz.ntmps121
  go_wp2
  go_loopw [3, 8] (fun h i wr => SumRel b w h i wr) (fun _ i _ => b.size - (intOf i).toNat)
  case atStart => exact ⟨rfl, 0, Nat.zero_le _, rfl, rfl⟩
  case round =>
    obtain ⟨rfl, k, hk, rfl, rfl⟩ := hrel
    by_cases hlt : k < b.size
    · have hz := sumZ_succ b.data.toList k (by rw [Array.length_toList]; exact hlt)
      have HZ := hide hz
      have hcell := unhide HC k _ (u8s_get b k hlt)
      clear hz
      generalize sumZ (b.data.toList.take k) = z at *
      go_wp2
      go_roundw
      case rel =>
        refine ⟨rfl, k + 1, hlt, by go_num, ?_⟩
        rw [unhide HZ]
        rfl
      case measure => simp [intOf]; omega
    · have e : b.data.toList.take k = b.data.toList := List.take_of_length_le (by rw [Array.length_toList]; exact Nat.le_of_not_lt hlt)
      rw [e]
      go_wp2
      go_ret
      exact ⟨rfl, rfl⟩

theorem b4_size (z : Int) : (b4 z).size = 4 := by unfold b4; simp
theorem b4_cells (z : Int) : u8s (b4 z) = [.int .u8 (z / 16777216 % 256), .int .u8 (z / 65536 % 256), .int .u8 (z / 256 % 256), .int .u8 (z % 256)] := by
  unfold u8s b4
  simp
  omega
theorem Fr.unalloc {S S' : Nat → Prop} {w w' : World} {o : Obj} (h : Fr S (w.alloc o) w' S') : Fr S w w' S' :=
  ⟨h.os, h.tape, h.output, Nat.le_trans (by simp) h.size, fun k hk hn => (h.same k (by simp; omega) hn).trans (Below.heap_alloc _ _ _ hk), fun k hk e => h.old k (by simp; omega) e⟩

set_option maxHeartbeats 1000000 in
set_option maxRecDepth 20000 in
/-- The sum of the body is put behind b. -/
theorem appendSum_any {w : World} {B : Nat} {v u : Value} {b c : ByteArray} (h : OwnB w B v b) (hu : BytesAt w u c) (hc : c.size ≤ 1000000000) (hb : b.size ≤ 900000000) (hB : B ≤ w.heap.size) :
    Calls Tryz.prog 100 #[v, u] w fun e w' => ∃ v', e = .returned v' ∧ OwnB w' B v' (b ++ sumS c) ∧ Fr (own v) w w' (own v') := by
  have h1 := psum_any hu hc
  have hS : sumS c = b4 (sumZ c.data.toList) := rfl
  generalize sumZ c.data.toList = z at *
  have HS := hide hS
  have H := hide (h.alloc (.cells #[.int .u8 (z / 16777216 % 256), .int .u8 (z / 65536 % 256), .int .u8 (z / 256 % 256), .int .u8 (z % 256)] 5))
  have HC := hide (b4_cells z)
  have H4 := hide (b4_size z)
  clear hS h hu
  go_enter Tryz.func100, Tryz.ntmps100
  go_wp2_with (first | (go_at_call 121; refine h1.mono ?_; rintro e w1 ⟨rfl, rfl⟩) | (at_builtin; refine wpList_bytes (c := b4 z) (ad := ⟨w1.heap.size, 0, none⟩) (cap := 4) rfl (.tmp 8) (.tmp 20) rfl rfl (by rw [unhide H4]; rfl) (unhide H) ?_ (by rw [unhide H4]; omega) (by rw [unhide H4]; omega) (by simp; omega) ?_))
  · rw [unhide HC]
    intro j u hu
    rw [addr_add, Nat.zero_add, cell_of_row _ _ j _ 5 (0, 0) (heap_alloc_new _ _)]
    simpa using hu
  · intro v' w' o' f'
    have O' := hide o'
    have F' := hide f'
    clear o' f'
    go_wp2
    go_ret
    refine ⟨_, rfl, ?_, (unhide F').unalloc⟩
    rw [unhide HS]
    exact unhide O'
end Go.Proofs.YtfmbebofllgmoaaGreatDoor
namespace Go.Proofs.YtfmbebofllgmoaaGreatDoor
open Go.RowKit

/-- What an element's type says. -/
structure Elem (t e size bytes : Nat) : Prop where
  u : Tryz.prog.underlying t = some (.slice e)
  i : ∃ i z, Tryz.prog.info? e = some i ∧ i.zero = some z ∧ i.size = size ∧ i.bytes = bytes ∧ z.cells.size = size
theorem elem_of (t e size bytes : Nat) (z : Value) (hu : Tryz.prog.underlying t = some (.slice e)) (h : (Tryz.prog.info? e).map (fun i => (i.zero, i.size, i.bytes)) = some (some z, size, bytes)) (hz : z.cells.size = size) : Elem t e size bytes := by
  obtain ⟨i, hi, hb⟩ := Option.map_eq_some_iff.1 h
  injection hb with h1 h2
  injection h2 with h2 h3
  exact ⟨hu, i, z, hi, h1, h2, h3, hz⟩
theorem elemI : Elem 26 3 1 8 := elem_of _ _ _ _ (.int .i64 0) Tryz.underlying26 (by kernel_rfl) rfl
theorem elemO : Elem 31 70 3 24 := elem_of _ _ _ _ (.agg #[.int .i64 0, .int .i64 0, .int .i64 0]) Tryz.underlying31 (by kernel_rfl) rfl
theorem elemH : Elem 25 31 1 24 := elem_of _ _ _ _ (.slice none 0 0) Tryz.underlying25 (by kernel_rfl) rfl
theorem elemB : Elem 27 26 1 24 := elem_of _ _ _ _ (.slice none 0 0) Tryz.underlying27 (by kernel_rfl) rfl
theorem elemE : Elem 34 72 3 24 := elem_of _ _ _ _ (.agg #[.int .i64 0, .int .i64 0, .int .i64 0]) Tryz.underlying34 (by kernel_rfl) rfl

theorem grow_fr {w w' : World} {v : Value} {g n cap : Nat} (h2 : w.grownBy w' v.ownBlock) (h3 : v.ownBlock = some g ∨ g = w.heap.size) : Fr (own v) w w' (own (.slice (some ⟨g, 0, none⟩) n cap)) := by
  refine ⟨h2.os, h2.tape, h2.output, h2.size, fun k hk hn => h2.block k hk (fun e => hn e.symm), ?_⟩
  intro k hk e
  simp only [own, Value.ownBlock, Option.some.injEq] at e
  subst e
  rcases h3 with h3 | h3
  · exact h3
  · omega

theorem wpList_grow {ops : Array Oper} {rest : List Oper} {o : Oper} {a : Act} {Q : Exit → Act → World → Prop} {w : World} {B t e size bytes : Nat} (E : Elem t e size bytes) (hs0 : 0 < size) (hs1 : bytes ≤ 100) {v : Value} {n m : Nat} {xs news : List Value} (hgd : o.guard = none) (sv xv : Operand)
    (ho : o.op = .call { callee := .builtin .append, args := #[sv, xv], argTypes := #[t, t] }) {ad : Addr} {cap : Nat} (hs : a.eval sv = v) (hx : a.eval xv = .slice (some ad) m cap) (hrow : w.ownsRow B e size v n xs) (hl : news.length = m * size)
    (hc : ∀ j u, news[j]? = some u → w.cell? (ad.add j) = some u) (h1 : ∀ u ∈ news, u.oneCell' = true) (hm : 0 < m) (hn : n + m ≤ 1000000) (hB : B ≤ w.heap.size)
    (h : ∀ v' w', w'.ownsRow B e size v' (n + m) (xs ++ news) → Fr (own v) w w' (own v') → (∃ a c, v' = .slice a (n + m) c) → wpList Tryz.prog ops Q rest (a.put o.dst v') w') : wpList Tryz.prog ops Q (o :: rest) a w := by
  obtain ⟨i, z, hi, hz, hsz, hby, hzc⟩ := E.i
  have hmx : n + m ≤ maxLen := by simp only [maxLen]; omega
  have hbb : (n + m) * bytes ≤ 140737488355328 := Nat.le_trans (Nat.mul_le_mul hn hs1) (by omega)
  refine wpList_append_lies _ hgd sv xv t ho B e i z size bytes E.u hi hz hsz hby hzc hs0 v n xs hs hrow ad m cap news hx hl hc h1 hm hmx hbb hB w.heap.size rfl ?_
  intro g cp w' h1 h2 h3 h4
  exact h _ w' h1 (grow_fr h2 h3) ⟨_, _, rfl⟩
theorem step_grow {ops : Array Oper} {o : Oper} {a : Act} {K : Act → World → Prop} {Q : Exit → Act → World → Prop} {E' : Prop} {w : World} {B t e size bytes : Nat} (E : Elem t e size bytes) (hs0 : 0 < size) (hs1 : bytes ≤ 100) {v : Value} {n m : Nat} {xs news : List Value} (hgd : o.guard = none) (sv xv : Operand)
    (ho : o.op = .call { callee := .builtin .append, args := #[sv, xv], argTypes := #[t, t] }) {ad : Addr} {cap : Nat} (hs : a.eval sv = v) (hx : a.eval xv = .slice (some ad) m cap) (hrow : w.ownsRow B e size v n xs) (hl : news.length = m * size)
    (hc : ∀ j u, news[j]? = some u → w.cell? (ad.add j) = some u) (h1 : ∀ u ∈ news, u.oneCell' = true) (hm : 0 < m) (hn : n + m ≤ 1000000) (hB : B ≤ w.heap.size)
    (h : ∀ v' w', w'.ownsRow B e size v' (n + m) (xs ++ news) → Fr (own v) w w' (own v') → (∃ a c, v' = .slice a (n + m) c) → K (a.put o.dst v') w') : if Region.wanted o (yielded ops a.tmps) = true then Oper.wp Tryz.prog o a w K Q else E' := by
  obtain ⟨i, z, hi, hz, hsz, hby, hzc⟩ := E.i
  have hmx : n + m ≤ maxLen := by simp only [maxLen]; omega
  have hbb : (n + m) * bytes ≤ 140737488355328 := Nat.le_trans (Nat.mul_le_mul hn hs1) (by omega)
  refine step_append_lies _ hgd sv xv t ho B e i z size bytes E.u hi hz hsz hby hzc hs0 v n xs hs hrow ad m cap news hx hl hc h1 hm hmx hbb hB w.heap.size rfl ?_
  intro g cp w' h1 h2 h3 h4
  exact h _ w' h1 (grow_fr h2 h3) ⟨_, _, rfl⟩
end Go.Proofs.YtfmbebofllgmoaaGreatDoor
namespace Go.Proofs.YtfmbebofllgmoaaGreatDoor
open Go.RowKit
attribute [local go_sem ↓] Go.wp_at_zero Go.wp_at_succ

/-- In the midst of a body: the box of the input, the bytes so far. -/
structure BI (w : World) (x0 x1 x2 x3 : Value) (W : World) (v : Value) (b : ByteArray) : Prop where
  row : OwnB W w.heap.size v b
  fr : Fr (fun _ => False) w W (fun _ => False)
  new : ∀ k, own v k → w.heap.size < k
  box : W.heap[w.heap.size]? = some (.cells #[x0, x1, x2, x3] 49)
theorem Fr.fresh {S T T' : Nat → Prop} {w W w' : World} (h : Fr S w W S) (h' : Fr T W w' T') (hT : ∀ k, T k → w.heap.size ≤ k) : Fr S w w' S :=
  ⟨h'.os.trans h.os, h'.tape.trans h.tape, h'.output.trans h.output, Nat.le_trans h.size h'.size, fun k hk hn => (h'.same k (Nat.lt_of_lt_of_le hk h.size) (fun ht => by have := hT k ht; omega)).trans (h.same k hk hn), fun _ _ h => h⟩
theorem ownB_lit (w : World) (B : Nat) (z : Int) (h0 : 0 ≤ z) (h1 : z < 256) (hB : B ≤ w.heap.size) : OwnB (w.alloc (.cells #[.int .u8 z] 5)) B (.slice (some ⟨w.heap.size, 0, none⟩) 1 1) (ByteArray.empty.push (UInt8.ofNat z.toNat)) := by
  have hl : u8s (ByteArray.empty.push (UInt8.ofNat z.toNat)) = [.int .u8 z] := by simp [u8s]; omega
  refine .inl ?_
  rw [hl]
  exact ⟨by simp, .inr ⟨w.heap.size, 1, #[.int .u8 z], by simp, hB, heap_alloc_new _ _, by simp, by simp [maxLen], rfl, rfl⟩⟩
theorem BI.start (w : World) (x0 x1 x2 x3 : Value) (z : Int) (h0 : 0 ≤ z) (h1 : z < 256) : BI w x0 x1 x2 x3 ((w.alloc (.cells #[x0, x1, x2, x3] 49)).alloc (.cells #[.int .u8 z] 5)) (.slice (some ⟨w.heap.size + 1, 0, none⟩) 1 1) (ByteArray.empty.push (UInt8.ofNat z.toNat)) := by
  have hz : (w.alloc (.cells #[x0, x1, x2, x3] 49)).heap.size = w.heap.size + 1 := by simp
  refine ⟨?_, ((Fr.refl _ w).alloc _).alloc _, ?_, ?_⟩
  · have := ownB_lit (w.alloc (.cells #[x0, x1, x2, x3] 49)) w.heap.size z h0 h1 (by omega)
    rw [hz] at this
    exact this
  · intro k hk
    simp only [own, Value.ownBlock, Option.some.injEq] at hk
    omega
  · exact (Below.heap_alloc _ _ _ (by omega)).trans (heap_alloc_new w _)
theorem BI.cell {w : World} {x0 x1 x2 x3 : Value} {W : World} {v : Value} {b : ByteArray} (h : BI w x0 x1 x2 x3 W v b) (j : Nat) : W.cell? ⟨w.heap.size, j, none⟩ = (#[x0, x1, x2, x3] : Array Value)[j]? := cell_of_row W w.heap.size j _ 49 (0, 0) h.box
theorem BI.varint {w : World} {x0 x1 x2 x3 : Value} {W : World} {v : Value} {b : ByteArray} (h : BI w x0 x1 x2 x3 W v b) (m : Nat) (hm : m < 4611686018427387904) (hb : b.size ≤ 100000) :
    Calls Tryz.prog 103 #[v, .int .i64 m] W fun e w' => ∃ v', e = .returned v' ∧ BI w x0 x1 x2 x3 w' v' (b ++ varS m) := by
  have hsm := varS_small m hm
  refine (appendVarint_any h.row m hm (by omega) h.fr.size).mono ?_
  rintro e w' ⟨v', rfl, ho, hf⟩
  refine ⟨v', rfl, ho, h.fr.fresh hf (fun k hk => Nat.le_of_lt (h.new k hk)), ?_, ?_⟩
  · intro k hk
    by_cases hlt : k < W.heap.size
    · exact h.new k (hf.old k hlt hk)
    · have : w.heap.size < W.heap.size := (Array.getElem?_eq_some_iff.1 h.box).1
      omega
  · exact (hf.same _ (Array.getElem?_eq_some_iff.1 h.box).1 (fun hk => by have := h.new _ hk; omega)).trans h.box

set_option maxHeartbeats 1000000 in
set_option maxRecDepth 20000 in
/-- Clocks and ends. -/
theorem pbody_one (k : Nat) (o n : Nat) (fv : Value) (a : Option Addr) (l c : Nat) (hfv : fv = .slice a l c) (hk : k = 1 ∨ k = 5) (hn : n < 4611686018427387904) (w : World) :
    Calls Tryz.prog 102 #[.agg #[.int .i64 k, .int .i64 o, .int .i64 n, fv]] w fun e w' => ∃ v', e = .returned v' ∧ OwnB w' w.heap.size v' (bodyS k o n) ∧ Fr (fun _ => False) w w' (fun _ => False) := by
  subst hfv
  have hb : bodyS k o n = one k ++ varS n := by unfold bodyS; rw [if_neg (by omega)]
  have hwr : IntKind.u8.wrap (k : Int) = k := by rcases hk with rfl | rfl <;> rfl
  have hk2 : ((k : Int) == 2) = false := by rcases hk with rfl | rfl <;> rfl
  have hk3 : ((k : Int) == 3) = false := by rcases hk with rfl | rfl <;> rfl
  have hk4 : ((k : Int) == 4) = false := by rcases hk with rfl | rfl <;> rfl
  have h1 := (BI.start w (.int .i64 k) (.int .i64 o) (.int .i64 n) (.slice a l c) k (by omega) (by omega)).varint n hn (by simp)
  have he : ByteArray.empty.push (UInt8.ofNat ((k : Int)).toNat) = one k := by rw [Int.toNat_natCast]; rfl
  rw [he] at h1
  rw [hb]
  generalize one k ++ varS n = R at *
  clear hb he hk hn
  go_enter Tryz.func102, Tryz.ntmps102
  go_wp2_with (go_at_call 103; refine h1.mono ?_; rintro e w1 ⟨v1, rfl, b1⟩; have B1 := hide b1; clear b1)
  go_ret
  exact ⟨_, rfl, (unhide B1).row, (unhide B1).fr⟩

set_option maxHeartbeats 1000000 in
set_option maxRecDepth 20000 in
/-- Picks and lots. -/
theorem pbody_two (k : Nat) (o n : Nat) (fv : Value) (a : Option Addr) (l c : Nat) (hfv : fv = .slice a l c) (hk : k = 3 ∨ k = 4) (hn : n < 4611686018427387904) (ho : o < 4611686018427387904) (w : World) :
    Calls Tryz.prog 102 #[.agg #[.int .i64 k, .int .i64 o, .int .i64 n, fv]] w fun e w' => ∃ v', e = .returned v' ∧ OwnB w' w.heap.size v' (bodyS k o n) ∧ Fr (fun _ => False) w w' (fun _ => False) := by
  subst hfv
  have hb : bodyS k o n = one k ++ varS o ++ varS n := by unfold bodyS; rw [if_pos hk]
  have hwr : IntKind.u8.wrap (k : Int) = k := by rcases hk with rfl | rfl <;> rfl
  have hk2 : ((k : Int) == 2) = false := by rcases hk with rfl | rfl <;> rfl
  have hs1 : (one k).size = 1 := by unfold one; simp
  have hso := varS_small o ho
  have hbi := BI.start w (.int .i64 k) (.int .i64 o) (.int .i64 n) (.slice a l c) k (by omega) (by omega)
  have he : ByteArray.empty.push (UInt8.ofNat ((k : Int)).toNat) = one k := by rw [Int.toNat_natCast]; rfl
  rw [he] at hbi
  rw [hb]
  have HC : Hid (∀ W v b m, BI w (.int .i64 k) (.int .i64 o) (.int .i64 n) (.slice a l c) W v b → m < 4611686018427387904 → b.size ≤ 100000 → Calls Tryz.prog 103 #[v, .int .i64 (m : Nat)] W fun e w' => ∃ v', e = .returned v' ∧ BI w (.int .i64 k) (.int .i64 o) (.int .i64 n) (.slice a l c) w' v' (b ++ varS m)) := hide (fun W v b m h h1 h2 => h.varint m h1 h2)
  have HO := hide ho
  have HN := hide hn
  have Z1 := hide (show (one k).size ≤ 100000 by omega)
  have Z2 := hide (show (one k ++ varS o).size ≤ 100000 by rw [ByteArray.size_append]; omega)
  have B0 := hide hbi
  have c0 := hbi.cell
  clear hb he hn ho hbi hs1 hso c0
  generalize one k = O at *
  rcases hk with rfl | rfl
  · have hk3 : (((3 : Nat) : Int) == 3) = true := rfl
    go_enter Tryz.func102, Tryz.ntmps102
    go_wp2_with (go_at_call 103; refine (unhide HC _ _ _ _ (unhide B0) (by first | exact unhide HO | exact unhide HN) (by first | exact unhide Z1 | exact unhide Z2)).mono ?_; rintro e w1 ⟨v1, rfl, b1⟩; have ck := b1.cell; have B0 := hide b1; clear b1)
    go_ret
    exact ⟨_, rfl, (unhide B0).row, (unhide B0).fr⟩
  · have hk3 : (((4 : Nat) : Int) == 3) = false := rfl
    have hk4 : (((4 : Nat) : Int) == 4) = true := rfl
    go_enter Tryz.func102, Tryz.ntmps102
    go_wp2_with (go_at_call 103; refine (unhide HC _ _ _ _ (unhide B0) (by first | exact unhide HO | exact unhide HN) (by first | exact unhide Z1 | exact unhide Z2)).mono ?_; rintro e w1 ⟨v1, rfl, b1⟩; have ck := b1.cell; have B0 := hide b1; clear b1)
    go_ret
    exact ⟨_, rfl, (unhide B0).row, (unhide B0).fr⟩

def PBodyRel (l : List Int) (r0 : ByteArray) (w : World) (x0 x1 x2 x3 : Value) (u i : Value) (wr : World) : Prop :=
  ∃ (k : Nat), k ≤ l.length ∧ i = .int .i64 k ∧ BI w x0 x1 x2 x3 wr u (filesS (l.take k) r0) ∧ (filesS (l.take k) r0).size ≤ 100 + 64 * k

set_option maxHeartbeats 1000000 in
set_option maxRecDepth 20000 in
/-- Batches. -/
theorem pbody_files (o n : Int) (fv : Value) (l : List Int) {P : Nat → Prop} (w : World) (hP : ∀ q, P q → q < w.heap.size) (hl : IntsIn w fv l P) (h8 : l.length ≤ 8) (hz : ∀ z, z ∈ l → 0 ≤ z ∧ z < 8) :
    Calls Tryz.prog 102 #[.agg #[.int .i64 2, .int .i64 o, .int .i64 n, fv]] w fun e w' => ∃ v', e = .returned v' ∧ OwnB w' w.heap.size v' (batchS l) ∧ Fr (fun _ => False) w w' (fun _ => False) := by
  obtain ⟨a, c, rfl, hc⟩ := hl
  have hlen : l.length < 4611686018427387904 := by omega
  have hs2 := varS_small l.length hlen
  have h1s : (one 2).size = 1 := by unfold one; simp
  have hr0 : (one 2 ++ varS l.length).size ≤ 100 := by rw [ByteArray.size_append]; omega
  have hbs : batchS l = filesS l (one 2 ++ varS l.length) := rfl
  have hbi := BI.start w (.int .i64 2) (.int .i64 o) (.int .i64 n) (.slice a l.length c) 2 (by omega) (by omega)
  have he : ByteArray.empty.push (UInt8.ofNat ((2 : Int)).toNat) = one 2 := rfl
  rw [he] at hbi
  have h1 := hbi.varint l.length hlen (by omega)
  have h2 : ∀ (W : World) (u : Value) (b : ByteArray) (m : Nat), BI w (.int .i64 2) (.int .i64 o) (.int .i64 n) (.slice a l.length c) W u b → m < 8 → b.size ≤ 100000 → Calls Tryz.prog 103 #[u, .int .i64 m] W fun e w' => ∃ v', e = .returned v' ∧ BI w (.int .i64 2) (.int .i64 o) (.int .i64 n) (.slice a l.length c) w' v' (b ++ varS m) := fun W u b m h hm hb => h.varint m (by omega) hb
  have h3 : ∀ m : Nat, m < 8 → (varS m).size ≤ 64 := fun m hm => varS_small m (by omega)
  generalize one 2 = O at *
  generalize hvl : varS l.length = V at *
  have HC := hide hc
  have HP := hide hP
  have HZ := hide hz
  have H2 := hide h2
  have H3 := hide h3
  have HR0 := hide hr0
  have HBS := hide hbs
  clear hc hP hz h2 h3 hr0 hbs hs2 h1s hvl hlen hbi he
  go_enter Tryz.func102, Tryz.ntmps102
  go_wp2_with (go_at_call 103; refine h1.mono ?_; rintro e w1 ⟨v1, rfl, b1⟩; have ck := b1.cell; have B1 := hide b1; clear b1)
  go_loopw [3, 26] (fun u i wr => PBodyRel l (O ++ V) w (.int .i64 2) (.int .i64 o) (.int .i64 n) (.slice a l.length c) u i wr) (fun _ i _ => l.length - (intOf i).toNat)
  case atStart => exact ⟨0, Nat.zero_le _, rfl, unhide B1, unhide HR0⟩
  case round =>
    obtain ⟨k, hk, rfl, hbi, hsize⟩ := hrel
    by_cases hlt : k < l.length
    · rcases unhide HC with hz | ⟨q, off, rfl, hq, hcell⟩
      · rw [hz] at hlt; simp at hlt
      have cz := (hbi.fr.cell q (off + k) (unhide HP q hq) (fun h => h)).trans (hcell k hlt)
      have hget : l.getD k 0 = l[k] := by simp [List.getD, hlt]
      rw [hget] at cz
      have HSU := hide (filesS_succ l (O ++ V) k hlt)
      obtain ⟨z0, z8⟩ := unhide HZ l[k] (List.getElem_mem hlt)
      clear hcell hget
      generalize l[k] = z at *
      obtain ⟨m, rfl⟩ : ∃ m : Nat, z = m := ⟨z.toNat, by omega⟩
      have hvs := unhide H3 m (by omega)
      have h7 := unhide H2 _ _ _ m hbi (by omega) (by omega)
      rw [Int.toNat_natCast] at HSU
      clear hbi
      generalize varS m = U at *
      generalize filesS (l.take k) (O ++ V) = R at *
      have HSZ := hide hsize
      have HVS := hide hvs
      clear hsize hvs
      go_wp2_with (go_at_call 103; refine h7.mono ?_; rintro e w2 ⟨v2, rfl, b2⟩; have B2 := hide b2; clear b2)
      go_roundw
      case rel =>
        have h5 := unhide HSZ
        have h6 := unhide HVS
        refine ⟨k + 1, by omega, by go_num, by rw [unhide HSU]; exact unhide B2, by rw [unhide HSU, ByteArray.size_append]; omega⟩
      case measure => simp [intOf]; omega
    · have e : l.take k = l := List.take_of_length_le (by omega)
      rw [e] at hbi
      clear hsize
      generalize filesS l (O ++ V) = R at *
      have B2 := hide hbi
      clear hbi e
      go_wp2
      go_ret
      exact ⟨_, rfl, by rw [unhide HBS]; exact (unhide B2).row, (unhide B2).fr⟩
end Go.Proofs.YtfmbebofllgmoaaGreatDoor
