/-
  PROVED HERE: world.modulo, world.heard, world.files. the reference's modulo and files. the reference's varint. the reference's Sum and Frame. the reference's Body. laws for walking a function that sends and receives in one goroutine: from each place of its text to its return. world.filled makes a channel that holds the list and is closed: of numbers and of lists. slices of bytes that are a writer's own; the log's appendVarint, sum and appendSum. the log's body of an input, by kind. the log's writer: Heard writes a record, End the last one. the log's writer begins with its head, and ends with the record of the end.
-/
import Derived.Test.YtfmbebofllgmoaaDoorLoopb
import Derived.Laws.BytesString
import Derived.Deep.RegionHeld3
import Derived.Conc.LoneCalls
import Derived.Calls
import Derived.Tactics
import Derived.Test.YtfmbebofllgmoaaDoorProg
import Derived.WalkKit
import Derived.WalkSpells
import Derived.WalkLawsBesides
import Derived.KernelRfl
import Derived.Laws.Rows
import Derived.ArgAppend
import Derived.Test.YtfmbebofllgmoaaDoorLoopc
import Derived.Lib.SlBytesConst
namespace Go.Proofs.YtfmbebofllgmoaaDoor
open Go.RowKit
attribute [local go_sem ↓] Go.wp_at_zero Go.wp_at_succ

theorem mod_arith (n of : Int) (h1 : 1 ≤ of) (h2 : of ≤ 1000000) : (wrap64 (n.tmod of + of)).tmod of = n % of := by
  have b1 : n.tmod of < of := Int.tmod_lt_of_pos n (by omega)
  have b2 : -of < n.tmod of := by
    have := Int.tmod_lt_of_pos (-n) (show 0 < of by omega)
    rw [Int.neg_tmod] at this
    omega
  have e : wrap64 (n.tmod of + of) = n.tmod of + of := by unfold wrap64; omega
  rw [e, Int.tmod_eq_emod_of_nonneg (by omega), Int.add_emod_right, Int.tmod_def, Int.sub_mul_emod_self_left]
theorem modulo_any (n of : Int) (w : World) (h1 : 1 ≤ of) (h2 : of ≤ 1000000) : Calls Tryd.prog 92 #[.int .i64 n, .int .i64 of] w fun e w' => e = .returned (.int .i64 (n % of)) ∧ w' = w := by
  have hne : (of == 0) = false := by simp; omega
  have hne' : of ≠ 0 := by omega
  go_enter Tryd.func92, Tryd.ntmps92
  go_wp2
  go_ret
  rw [← mod_arith n of h1 h2]
  exact ⟨rfl, rfl⟩

set_option maxHeartbeats 1000000 in
theorem heard_any (k o n : Int) (fv : Value) (a : Option Addr) (l c : Nat) (hfv : fv = .slice a l c) (ok : Bool) (w : World) : Calls Tryd.prog 90 #[.agg #[.int .i64 k, .int .i64 o, .int .i64 n, fv], .bool ok] w fun e w' =>
    e = .returned (.tuple #[if ok then .agg #[.int .i64 k, .int .i64 o, .int .i64 n, fv] else .agg #[.int .i64 0, .int .i64 0, .int .i64 0, .slice none 0 0], .int .i64 (if ok then 0 else 5)]) ∧ Fr (fun _ => False) w w' (fun _ => False) := by
  subst hfv
  cases ok
  · go_enter Tryd.func90, Tryd.ntmps90
    go_wp2
    refine bodyPost_ret (v := .tuple #[.agg #[.int .i64 0, .int .i64 0, .int .i64 0, .slice none 0 0], .int .i64 5]) (by simp [results, Tryd.results90, go_sem]) rfl ?_
    exact ⟨rfl, ((Fr.refl _ w).alloc _).alloc _⟩
  · go_enter Tryd.func90, Tryd.ntmps90
    go_wp2
    refine bodyPost_ret (v := .tuple #[.agg #[.int .i64 k, .int .i64 o, .int .i64 n, .slice a l c], .int .i64 0]) (by simp [results, Tryd.results90, go_sem]) rfl ?_
    exact ⟨rfl, ((Fr.refl _ w).alloc _).alloc _⟩

theorem frozen_any {w : World} {g e : Nat} {cur : Array Value} (hb : w.heap[g]? = some (.cells cur e (0, 0))) (j : Nat) : w.frozen? ⟨g, j, none⟩ = false := by simp [World.frozen?, hb]

/-- The first k files that are named. -/
def filesK (f : Nat → Bool) (k : Nat) : List Int := ((List.range k).filter f).map fun (j : Nat) => (j : Int)
theorem filesK_succ (f : Nat → Bool) (k : Nat) : filesK f (k + 1) = filesK f k ++ (if f k then [(k : Int)] else []) := by
  unfold filesK
  rw [List.range_succ, List.filter_append, List.map_append]
  congr 1
  cases h : f k <;> simp [h]
theorem filesK_length (f : Nat → Bool) (k : Nat) : (filesK f k).length ≤ k := by
  unfold filesK
  have := List.length_filter_le f (List.range k)
  simpa using this
theorem filesK_mem (f : Nat → Bool) (k : Nat) (z : Int) (h : z ∈ filesK f k) : 0 ≤ z ∧ z < k := by
  unfold filesK at h
  obtain ⟨j, hj, rfl⟩ := List.mem_map.1 h
  have := List.mem_range.1 (List.mem_filter.1 hj).1
  omega
/-- Which files a list names. -/
def namedB (l : List Int) (j : Nat) : Bool := l.contains (j : Int)
def boolL (f : Nat → Bool) : List Value := (List.range 8).map fun j => .bool (f j)
theorem index_b0 (f : Nat → Bool) (w : World) : (Instr.index 76 (.agg (boolL f).toArray) (.int .i64 0)).run Tryd.prog w = .ok (.bool (f 0)) w := by kernel_rfl
theorem index_b1 (f : Nat → Bool) (w : World) : (Instr.index 76 (.agg (boolL f).toArray) (.int .i64 1)).run Tryd.prog w = .ok (.bool (f 1)) w := by kernel_rfl
theorem index_b2 (f : Nat → Bool) (w : World) : (Instr.index 76 (.agg (boolL f).toArray) (.int .i64 2)).run Tryd.prog w = .ok (.bool (f 2)) w := by kernel_rfl
theorem index_b3 (f : Nat → Bool) (w : World) : (Instr.index 76 (.agg (boolL f).toArray) (.int .i64 3)).run Tryd.prog w = .ok (.bool (f 3)) w := by kernel_rfl
theorem index_b4 (f : Nat → Bool) (w : World) : (Instr.index 76 (.agg (boolL f).toArray) (.int .i64 4)).run Tryd.prog w = .ok (.bool (f 4)) w := by kernel_rfl
theorem index_b5 (f : Nat → Bool) (w : World) : (Instr.index 76 (.agg (boolL f).toArray) (.int .i64 5)).run Tryd.prog w = .ok (.bool (f 5)) w := by kernel_rfl
theorem index_b6 (f : Nat → Bool) (w : World) : (Instr.index 76 (.agg (boolL f).toArray) (.int .i64 6)).run Tryd.prog w = .ok (.bool (f 6)) w := by kernel_rfl
theorem index_b7 (f : Nat → Bool) (w : World) : (Instr.index 76 (.agg (boolL f).toArray) (.int .i64 7)).run Tryd.prog w = .ok (.bool (f 7)) w := by kernel_rfl
theorem index_b (f : Nat → Bool) (i : Nat) (hi : i < 8) (w : World) : (Instr.index 76 (.agg (boolL f).toArray) (.int .i64 (i : Int))).run Tryd.prog w = .ok (.bool (f i)) w := by
  have hc : i = 0 ∨ i = 1 ∨ i = 2 ∨ i = 3 ∨ i = 4 ∨ i = 5 ∨ i = 6 ∨ i = 7 := by omega
  rcases hc with rfl | rfl | rfl | rfl | rfl | rfl | rfl | rfl
  · exact index_b0 f w
  · exact index_b1 f w
  · exact index_b2 f w
  · exact index_b3 f w
  · exact index_b4 f w
  · exact index_b5 f w
  · exact index_b6 f w
  · exact index_b7 f w
def NamedAt (w : World) (b : Nat) (f : Nat → Bool) : Prop := ∀ j, j < 8 → w.cell? ⟨b, j, none⟩ = some (.bool (f j)) ∧ w.frozen? ⟨b, j, none⟩ = false
theorem NamedAt.set {w : World} {b : Nat} {f : Nat → Bool} (h : NamedAt w b f) (z : Nat) : NamedAt (w.setCell ⟨b, z, none⟩ (.bool true)) b (upd f z true) := by
  intro j hj
  obtain ⟨h1, h2⟩ := h j hj
  refine ⟨?_, by simpa using h2⟩
  by_cases e : j = z
  · subst e
    rw [World.cell?_setCell_same' _ _ _ (by rw [h1]; rfl)]
    simp [upd]
  · rw [World.cell?_setCell_other _ _ _ _ (by intro he; injection he; omega), h1]
    simp [upd, e]
theorem NamedAt.congr {w : World} {b : Nat} {f g : Nat → Bool} (h : NamedAt w b f) (he : ∀ j, j < 8 → g j = f j) : NamedAt w b g := fun j hj => by rw [he j hj]; exact h j hj
/-- The files that a list names, as a list that rises. -/
def filesL (l : List Int) : List Int := filesK (namedB l) 8

set_option maxHeartbeats 2000000 in
theorem files_any {w : World} {v : Value} {l : List Int} {P : Nat → Prop} (hP : ∀ q, P q → q < w.heap.size) (hl : IntsIn w v l P) (hn : l.length ≤ 100000000) :
    Calls Tryd.prog 91 #[v] w fun e w' => ∃ v', e = .returned v' ∧ OwnI w' w.heap.size v' (filesL l) ∧ Fr (fun _ => False) w w' (fun _ => False) := by
  obtain ⟨a, c, rfl, hc⟩ := hl
  have HC := hide hc
  have HP := hide hP
  clear hc hP
  go_enter Tryd.func91, Tryd.ntmps91
  go_wp2
  go_loopw [11] (fun i wr => ∃ k : Nat, k ≤ l.length ∧ i = .int .i64 k ∧ NamedAt wr w.heap.size (namedB (l.take k)) ∧ Fr (fun _ => False) w wr (fun _ => False) ∧ w.heap.size < wr.heap.size) (fun i _ => l.length - (intOf i).toNat)
  case atStart =>
    have hrow := heap_alloc_new w (.cells #[.bool false, .bool false, .bool false, .bool false, .bool false, .bool false, .bool false, .bool false] 76)
    refine ⟨0, Nat.zero_le _, rfl, fun j hj => ⟨?_, frozen_any hrow j⟩, (Fr.refl _ w).alloc _, by simp⟩
    rw [cell_of_row _ _ j _ 76 (0, 0) hrow]
    have hc : j = 0 ∨ j = 1 ∨ j = 2 ∨ j = 3 ∨ j = 4 ∨ j = 5 ∨ j = 6 ∨ j = 7 := by omega
    rcases hc with rfl | rfl | rfl | rfl | rfl | rfl | rfl | rfl <;> rfl
  case round =>
    obtain ⟨k, hk, rfl, hna, hf, hsz⟩ := hrel
    by_cases hlt : k < l.length
    · rcases unhide HC with hz | ⟨q, off, rfl, hq, hcell⟩
      · rw [hz] at hlt; simp at hlt
      have cz := (hf.cell q (off + k) (unhide HP q hq) (fun h => h)).trans (hcell k hlt)
      have hget : l.getD k 0 = l[k] := by simp [List.getD, hlt]
      rw [hget] at cz
      have htk : l.take (k + 1) = l.take k ++ [l[k]] := List.take_succ_eq_append_getElem hlt
      have HTK := hide htk
      have HNA := hide hna
      have HFR := hide hf
      clear hcell htk hget hf
      generalize l[k] = z at *
      by_cases hz : 0 ≤ z ∧ z < 8
      · obtain ⟨z0, z8⟩ := hz
        obtain ⟨cn, fz⟩ := hna z.toNat (by omega)
        clear hna
        go_wp2
        go_roundw
        case rel =>
          refine ⟨k + 1, by omega, by go_num, ?_, (unhide HFR).setCell _ _ (.inr (Nat.le_refl _)), by simpa [World.setCell] using hsz⟩
          rw [unhide HTK]
          refine ((unhide HNA).set z.toNat).congr (fun j hj => ?_)
          unfold namedB upd
          by_cases e : j = z.toNat
          · have e' : (j : Int) = z := by omega
            simp [e]
            exact .inr (by omega)
          · have e' : (j : Int) ≠ z := by omega
            simp [e, e']
        case measure => simp [intOf]; omega
      · have hzb : (decide (0 ≤ z) && decide (z < 8)) = false := by
          by_cases h0 : 0 ≤ z
          · have h8 : ¬ z < 8 := fun h => hz ⟨h0, h⟩
            simp [h8]
          · simp [h0]
        clear hna
        by_cases h0 : 0 ≤ z
        · have h8 : ¬ z < 8 := fun h => hz ⟨h0, h⟩
          go_wp2
          go_roundw
          case rel =>
            refine ⟨k + 1, by omega, by go_num, ?_, unhide HFR, hsz⟩
            rw [unhide HTK]
            refine (unhide HNA).congr (fun j hj => ?_)
            unfold namedB
            have e' : (j : Int) ≠ z := by omega
            simp [e']
          case measure => simp [intOf]; omega
        · go_wp2
          go_roundw
          case rel =>
            refine ⟨k + 1, by omega, by go_num, ?_, unhide HFR, hsz⟩
            rw [unhide HTK]
            refine (unhide HNA).congr (fun j hj => ?_)
            unfold namedB
            have e' : (j : Int) ≠ z := by omega
            simp [e']
          case measure => simp [intOf]; omega
    · have e : l.take k = l := List.take_of_length_le (by omega)
      rw [e] at hna
      have hfl : filesL l = filesK (namedB l) 8 := rfl
      generalize namedB l = f at *
      have c0 := (hna 0 (by omega)).1
      have c1 := (hna 1 (by omega)).1
      have c2 := (hna 2 (by omega)).1
      have c3 := (hna 3 (by omega)).1
      have c4 := (hna 4 (by omega)).1
      have c5 := (hna 5 (by omega)).1
      have c6 := (hna 6 (by omega)).1
      have c7 := (hna 7 (by omega)).1
      have hix : ∀ i : Nat, i < 8 → ∀ w, (Instr.index 76 (.agg #[.bool (f 0), .bool (f 1), .bool (f 2), .bool (f 3), .bool (f 4), .bool (f 5), .bool (f 6), .bool (f 7)]) (.int .i64 (i : Int))).run Tryd.prog w = .ok (.bool (f i)) w := fun i hi w => index_b f i hi w
      have HX := hide hix
      have HFL := hide hfl
      have HFR := hide hf
      clear hix hfl hf hna e
      go_wp2
      generalize hag : (#[.bool (f 0), .bool (f 1), .bool (f 2), .bool (f 3), .bool (f 4), .bool (f 5), .bool (f 6), .bool (f 7)] : Array Value) = A at *
      go_loopw [6, 25] (fun u i wr' => ∃ k : Nat, k ≤ 8 ∧ i = .int .i64 k ∧ OwnI wr' w.heap.size u (filesK f k) ∧ Fr (fun _ => False) w wr' (fun _ => False)) (fun _ i _ => 8 - (intOf i).toNat)
      case atStart => exact ⟨0, Nat.zero_le _, rfl, World.ownsRow_nil _ _ _ _, unhide HFR⟩
      case round =>
        obtain ⟨k, hk, rfl, ho, hf⟩ := hrel
        by_cases hlt : k < 8
        · have ix := fun w => unhide HX k hlt w
          have HSU := hide (filesK_succ f k)
          have HLE := hide (show (filesK f k).length ≤ 1000 by have := filesK_length f k; omega)
          have hsz : w.heap.size ≤ wr.heap.size := hf.size
          have HO := hide ho
          have HNE := hide ho.lt
          have HF := hide hf
          clear ho hf
          cases hfk : f k
          · rw [hfk] at ix
            have HFK := hide hfk
            clear hfk
            go_wp2
            go_roundw
            case rel =>
              refine ⟨k + 1, by omega, by go_num, ?_, unhide HF⟩
              rw [unhide HSU, unhide HFK]
              simpa using unhide HO
            case measure => simp [intOf]; omega
          · rw [hfk] at ix
            have HFK := hide hfk
            clear hfk
            go_wp2_with (at_builtin; refine wpList_int rfl (.tmp 30) (.tmp 32) rfl rfl rfl (unhide HO) (unhide HLE) hsz ?_; intro v' w' o' g')
            go_roundw
            case rel =>
              refine ⟨k + 1, by omega, by go_num, ?_, ((unhide HF).alloc _).grown g' (fun j hj => ((unhide HNE) j hj).1)⟩
              rw [unhide HSU, unhide HFK]
              simpa using o'
            case measure => simp [intOf]; omega
        · obtain rfl : k = 8 := by omega
          go_wp2
          go_ret
          rw [unhide HFL]
          exact ⟨_, rfl, ho, hf⟩
end Go.Proofs.YtfmbebofllgmoaaDoor
namespace Go.Proofs.YtfmbebofllgmoaaDoor
open Go.RowKit
attribute [local go_sem ↓] Go.wp_at_zero Go.wp_at_succ

theorem rmod_arith (n of : Int) (h1 : 1 ≤ of) (h2 : of ≤ 1000000) : (n.tmod of < 0 → wrap64 (n.tmod of + of) = n % of) ∧ (¬ n.tmod of < 0 → n.tmod of = n % of) := by
  have b1 : n.tmod of < of := Int.tmod_lt_of_pos n (by omega)
  have b2 : -of < n.tmod of := by
    have := Int.tmod_lt_of_pos (-n) (show 0 < of by omega)
    rw [Int.neg_tmod] at this
    omega
  have e : wrap64 (n.tmod of + of) = n.tmod of + of := by unfold wrap64; omega
  have h3 := mod_arith n of h1 h2
  rw [e] at h3
  constructor
  · intro h
    have h5 := Int.tmod_eq_of_lt (a := n.tmod of + of) (b := of) (by omega) (by omega)
    rw [e]
    exact h5.symm.trans h3
  · intro h
    have h4 : n % of = (n.tmod of) % of := by rw [Int.tmod_def, Int.sub_mul_emod_self_left]
    rw [h4, Int.emod_eq_of_lt (by omega) (by omega)]

theorem namedB_succ (l : List Int) (k j : Nat) (hk : k < l.length) : namedB (l.take (k + 1)) j = (namedB (l.take k) j || (l[k] == (j : Int))) := by
  unfold namedB
  rw [List.take_succ_eq_append_getElem hk]
  simp only [List.contains_eq_any_beq, List.any_append, List.any_cons, List.any_nil, Bool.or_false]
  congr 1
  by_cases e : (j : Int) = l[k]
  · simp [e]
  · have e' : l[k] ≠ (j : Int) := fun h => e h.symm
    rw [beq_eq_false_iff_ne.2 e, beq_eq_false_iff_ne.2 e']

end Go.Proofs.YtfmbebofllgmoaaDoor
namespace Go.Proofs.YtfmbebofllgmoaaDoor
open Go.RowKit
attribute [local go_sem ↓] Go.wp_at_zero Go.wp_at_succ

theorem conv1 (w : World) (g : Nat) (z : Int) (h : w.cell? ⟨g, 0, none⟩ = some (.int .u8 z)) : (convert 64 9 (.slice (some ⟨g, 0, none⟩) 1 1)).run Tryd.prog w = .ok (.string (ByteArray.empty.push (UInt8.ofNat z.toNat))) w := by
  rw [run_convert_bytes_string w 64 9 5 _ _ _ Tryd.underlying64 Tryd.underlying5 Tryd.underlying9]
  refine run_bytesToString w ⟨g, 0, none⟩ 1 1 [z] ?_
  go_simp
def varG : Nat → Nat → ByteArray
  | 0, n => ByteArray.empty.push (UInt8.ofNat n)
  | f + 1, n => if n < 128 then ByteArray.empty.push (UInt8.ofNat n) else ByteArray.empty.push (UInt8.ofNat (n % 128 + 128)) ++ varG f (n / 128)
/-- The bytes of a varint. -/
def varS (n : Nat) : ByteArray := varG n n
theorem varG_more : ∀ (f g n : Nat), n ≤ f → n ≤ g → varG f n = varG g n
  | 0, 0, _, _, _ => rfl
  | 0, g + 1, n, h, _ => by
    have : n = 0 := by omega
    subst this; simp [varG]
  | f + 1, 0, n, _, h => by
    have : n = 0 := by omega
    subst this; simp [varG]
  | f + 1, g + 1, n, h, h' => by
    simp only [varG]
    by_cases hn : n < 128
    · rw [if_pos hn, if_pos hn]
    · rw [if_neg hn, if_neg hn, varG_more f g (n / 128) (by omega) (by omega)]
theorem varS_eq (n : Nat) : varS n = if n < 128 then ByteArray.empty.push (UInt8.ofNat n) else ByteArray.empty.push (UInt8.ofNat (n % 128 + 128)) ++ varS (n / 128) := by
  unfold varS
  cases n with
  | zero => simp [varG]
  | succ m =>
    conv => lhs; unfold varG
    by_cases hn : m + 1 < 128
    · rw [if_pos hn, if_pos hn]
    · rw [if_neg hn, if_neg hn, varG_more m ((m + 1) / 128) ((m + 1) / 128) (by omega) (Nat.le_refl _)]

theorem varS_size (n : Nat) : 1 ≤ (varS n).size ∧ (varS n).size ≤ n + 1 := by
  induction n using Nat.strongRecOn with
  | _ n ih =>
    rw [varS_eq]
    by_cases h : n < 128
    · rw [if_pos h]; simp
    · rw [if_neg h]
      have := ih (n / 128) (by omega)
      simp [ByteArray.size_append]
      omega

end Go.Proofs.YtfmbebofllgmoaaDoor
namespace Go.Proofs.YtfmbebofllgmoaaDoor
open Go.RowKit
attribute [local go_sem ↓] Go.wp_at_zero Go.wp_at_succ

def sumStep (z : Int) (b : UInt8) : Int := bits BinOp.xor IntKind.u32 z ((b.toNat : Int) % 4294967296) * 16777619 % 4294967296
def sumZ (l : List UInt8) : Int := l.foldl sumStep 2166136261
def b4 (z : Int) : ByteArray := (((ByteArray.empty.push (UInt8.ofNat (z / 16777216 % 256).toNat)).push (UInt8.ofNat (z / 65536 % 256).toNat)).push (UInt8.ofNat (z / 256 % 256).toNat)).push (UInt8.ofNat (z % 256).toNat)
/-- The four bytes of a sum. -/
def sumS (s : ByteArray) : ByteArray := b4 (sumZ s.data.toList)

theorem conv4 (w : World) (g : Nat) (a b c d : Int) (h0 : w.cell? ⟨g, 0, none⟩ = some (.int .u8 a)) (h1 : w.cell? ⟨g, 1, none⟩ = some (.int .u8 b)) (h2 : w.cell? ⟨g, 2, none⟩ = some (.int .u8 c)) (h3 : w.cell? ⟨g, 3, none⟩ = some (.int .u8 d)) :
    (convert 64 9 (.slice (some ⟨g, 0, none⟩) 4 4)).run Tryd.prog w = .ok (.string ((((ByteArray.empty.push (UInt8.ofNat a.toNat)).push (UInt8.ofNat b.toNat)).push (UInt8.ofNat c.toNat)).push (UInt8.ofNat d.toNat))) w := by
  rw [run_convert_bytes_string w 64 9 5 _ _ _ Tryd.underlying64 Tryd.underlying5 Tryd.underlying9]
  refine run_bytesToString w ⟨g, 0, none⟩ 4 4 [a, b, c, d] ?_
  go_simp

theorem sumZ_succ (l : List UInt8) (k : Nat) (h : k < l.length) : sumZ (l.take (k + 1)) = sumStep (sumZ (l.take k)) l[k] := by
  unfold sumZ
  rw [List.take_succ_eq_append_getElem h, List.foldl_append]
  rfl

def SumRel (s : ByteArray) (w : World) (h i : Value) (wr : World) : Prop := wr = w ∧ ∃ k : Nat, k ≤ s.size ∧ i = .int .i64 k ∧ h = .int .u32 (sumZ (s.data.toList.take k))

/-- A record: length, body, sum. -/
def frameS (s : ByteArray) : ByteArray := varS s.size ++ s ++ sumS s
end Go.Proofs.YtfmbebofllgmoaaDoor
namespace Go.Proofs.YtfmbebofllgmoaaDoor
open Go.RowKit
attribute [local go_sem ↓] Go.wp_at_zero Go.wp_at_succ

def one (k : Nat) : ByteArray := ByteArray.empty.push (UInt8.ofNat k)
/-- A body of kind, of and n. -/
def bodyS (k : Nat) (o n : Nat) : ByteArray := if k = 3 ∨ k = 4 then one k ++ varS o ++ varS n else one k ++ varS n
/-- Files, one behind the other. -/
def filesS (l : List Int) (r : ByteArray) : ByteArray := l.foldl (fun r z => r ++ varS z.toNat) r
/-- A body of files. -/
def batchS (l : List Int) : ByteArray := filesS l (one 2 ++ varS l.length)

theorem varS_small (n : Nat) (h : n < 4611686018427387904) : (varS n).size ≤ 64 := by
  have g : ∀ (k n : Nat), n < 128 ^ k → (varS n).size ≤ k + 1 := by
    intro k
    induction k with
    | zero => intro n hn; have : n = 0 := by omega
              subst this; rw [varS_eq, if_pos (by omega)]; simp
    | succ k ih =>
      intro n hn
      rw [varS_eq]
      by_cases h : n < 128
      · rw [if_pos h]; simp
      · rw [if_neg h]
        have := ih (n / 128) (by rw [Nat.pow_succ] at hn; omega)
        simp [ByteArray.size_append]
        omega
  have := g 9 n (by omega)
  omega

theorem filesS_succ (l : List Int) (r : ByteArray) (k : Nat) (h : k < l.length) : filesS (l.take (k + 1)) r = filesS (l.take k) r ++ varS l[k].toNat := by
  unfold filesS
  rw [List.take_succ_eq_append_getElem h, List.foldl_append]
  rfl
theorem after_two {w w1 : World} {S' : Nat → Prop} {o1 o2 : Obj} (f1 : Fr (fun _ => False) ((w.alloc o1).alloc o2) w1 S') : w.heap.size < w1.heap.size := by
  have := f1.size
  simp at this
  omega
theorem box_three {w w1 : World} {S' : Nat → Prop} {o2 : Obj} {x0 x1 x2 x3 : Value} (f1 : Fr (fun _ => False) ((w.alloc (.cells #[x0, x1, x2, x3] 82)).alloc o2) w1 S') : w1.cell? ⟨w.heap.size, 3, none⟩ = some x3 := by
  have z3 : (w.alloc (.cells #[x0, x1, x2, x3] 82)).heap.size = w.heap.size + 1 := by simp
  have h1 : ((w.alloc (.cells #[x0, x1, x2, x3] 82)).alloc o2).heap[w.heap.size]? = some (.cells #[x0, x1, x2, x3] 82) := (Below.heap_alloc _ _ _ (by rw [z3]; omega)).trans (heap_alloc_new w _)
  rw [f1.cell _ _ (by simp; omega) (fun h => h)]
  exact cell_of_row _ _ 3 _ 82 (0, 0) h1
def BodyRel (l : List Int) (r0 : ByteArray) (w : World) (u i : Value) (wr : World) : Prop := ∃ (k : Nat), k ≤ l.length ∧ i = .int .i64 k ∧ u = .string (filesS (l.take k) r0) ∧ (filesS (l.take k) r0).size ≤ 100 + 64 * k ∧ Fr (fun _ => False) w wr (fun _ => False)

end Go.Proofs.YtfmbebofllgmoaaDoor
namespace Go.Proofs.YtfmbebofllgmoaaDoor
open Go.Conc Go.RowKit

/-- From here (what is left to do, the temporaries, the world) the frame comes to its return, and R holds. -/
def Rn (P : Program) (b : Frame) (R : Ending → World → Prop) (todo : List Item) (a : Act) (w : World) : Prop :=
  ∀ cs, ∃ v w' fr, R (.returned v) w' ∧ Steps P (lone (b.at a todo) cs w) (lone fr cs w') ∧ fr.fn = b.fn ∧ fr.leaving P w' (.returned v)

section
variable {P : Program} {b : Frame} {R : Ending → World → Prop} {k : List Item} {a : Act} {w : World}

theorem Rn.step {todo todo' : List Item} {a' : Act} {w' : World} (h : ∀ cs, Go.step P (lone (b.at a todo) cs w) = .next (lone (b.at a' todo') cs w')) (h' : Rn P b R todo' a' w') : Rn P b R todo a w :=
  fun cs => let ⟨v, w₂, fr, hr, hs, hf, hl⟩ := h' cs; ⟨v, w₂, fr, hr, Steps.head (h cs) hs, hf, hl⟩

theorem Rn.seq {x y : Code} (h : Rn P b R (.code x :: .code y :: k) a w) : Rn P b R (.code (.seq x y) :: k) a w := .step (fun _ => step_seq) h
theorem Rn.block {id : Nat} {c : Code} (h : Rn P b R (.code c :: .inBlock id :: k) a w) : Rn P b R (.code (.block id c) :: k) a w := .step (fun _ => step_block) h
theorem Rn.inBlock {id : Nat} (h : Rn P b R k a w) : Rn P b R (.inBlock id :: k) a w := .step (fun _ => step_inBlock) h
theorem Rn.loop {c : Code} (h : Rn P b R (.code c :: .inLoop c :: k) a w) : Rn P b R (.code (.loop c) :: k) a w := .step (fun _ => step_loop) h
theorem Rn.inLoop {c : Code} (h : Rn P b R (.code c :: .inLoop c :: k) a w) : Rn P b R (.inLoop c :: k) a w := .step (fun _ => step_inLoop) h
theorem Rn.cond {c : Operand} {x y : Code} {t : Bool} (hc : a.eval c = .bool t) (h : Rn P b R (.code (if t then x else y) :: k) a w) : Rn P b R (.code (.cond c x y) :: k) a w := .step (fun _ => step_cond hc) h
theorem Rn.exit {id : Nat} {k' : List Item} (hk : exitTo id k = some k') (h : Rn P b R k' a w) : Rn P b R (.code (.exit id) :: k) a w := .step (fun _ => step_exit hk) h
theorem Rn.region {id : Nat} {ops : Array Oper} (h : Rn P b R (.inRegion ops (List.range ops.size) :: k) a w) : Rn P b R (.code (.region id ops false) :: k) a w := .step (fun _ => step_region) h
theorem Rn.regionEnd {ops : Array Oper} (h : Rn P b R k a w) : Rn P b R (.inRegion ops [] :: k) a w := .step (fun _ => step_region_end) h

/-- A return. -/
theorem Rn.ret {fn : Func} {v : Value} (hk : b.kind = .normal) (hd : a.defers = []) (hf : P.funcs[b.fn]? = some fn) (hv : (results fn a.tmps).run P w = .ok v w) (h : R (.returned v) w) : Rn P b R (.code .ret :: k) a w :=
  fun _ => ⟨v, w, _, h, .one step_ret, rfl, rfl, hd, hk, fn, hf, hv⟩

/-- A piece that the kit's walk takes whole. -/
theorem Rn.code {c : Code} {Q : Act → World → Prop} {ret : Act → World → Prop} {ex : Nat → Act → World → Prop}
    (h : c.wp P (fun e a w => match e with | .normal => Q a w | .ret => ret a w | .exit id => ex id a w | _ => False) a w)
    (hn : ∀ a' w', Q a' w' → Rn P b R k a' w')
    (hr : ∀ a' w', ret a' w' → a'.defers = [] ∧ b.kind = .normal ∧ ∃ fn v, P.funcs[b.fn]? = some fn ∧ (results fn a'.tmps).run P w' = .ok v w' ∧ R (.returned v) w')
    (he : ∀ id a' w', ex id a' w' → ∃ k', exitTo id k = some k' ∧ Rn P b R k' a' w') : Rn P b R (.code c :: k) a w := by
  intro cs
  obtain ⟨e, a', w', hq, harr⟩ := h b k cs
  cases e with
  | normal =>
    obtain ⟨v, w₂, fr, hR, hs, hf, hl⟩ := hn _ _ hq cs
    exact ⟨v, w₂, fr, hR, Steps.trans harr hs, hf, hl⟩
  | ret =>
    obtain ⟨hd, hk, fn, v, hf, hv, hR⟩ := hr _ _ hq
    obtain ⟨todo, hs⟩ := harr
    exact ⟨v, w', _, hR, hs, rfl, rfl, hd, hk, fn, hf, hv⟩
  | exit id =>
    obtain ⟨k', hk', h'⟩ := he _ _ _ hq
    obtain ⟨v, w₂, fr, hR, hs, hf, hl⟩ := h' cs
    exact ⟨v, w₂, fr, hR, Steps.trans (harr k' hk') hs, hf, hl⟩
  | goto l => exact hq.elim
  | panic c => exact hq.elim
  | outgrown => exact hq.elim

/-- What is left of a region, by the kit's walk. -/
theorem Rn.ops {ops : Array Oper} {l : List Nat} {Q : Act → World → Prop} (h : wpOps P ops (fun e a w => match e with | .normal => Q a w | _ => False) l a w)
    (hn : ∀ a' w', Q a' w' → Rn P b R k a' w') : Rn P b R (.inRegion ops l :: k) a w := by
  intro cs
  obtain ⟨e, a', w', hq, harr⟩ := wp_ops l a w h b k cs
  cases e with
  | normal =>
    obtain ⟨v, w₂, fr, hR, hs, hf, hl⟩ := hn _ _ hq cs
    exact ⟨v, w₂, fr, hR, Steps.trans harr hs, hf, hl⟩
  | ret => exact hq.elim
  | exit id => exact hq.elim
  | goto l => exact hq.elim
  | panic c => exact hq.elim
  | outgrown => exact hq.elim

/-- One operation that yields a value. -/
theorem Rn.op {ops : Array Oper} {i : Nat} {rest : List Nat} {o : Oper} {v : Value} {w' : World} (ho : ops[i]? = some o) (hw : Region.wanted o (yielded ops a.tmps) = true)
    (hr : (execOp a.eval o).run P w = .ok (.value v) w') (h : Rn P b R (.inRegion ops rest :: k) (a.put o.dst v) w') : Rn P b R (.inRegion ops (i :: rest) :: k) a w :=
  .step (fun cs => by
    have hg := stepG_op (P := P) (b := b) (k := k) (cs := cs) (w := w) (rest := rest) ho hw
    have hfin : (b.at a (.inRegion ops (i :: rest) :: k)).finish v = b.at (a.put o.dst v) (.inRegion ops rest :: k) := by rw [Frame.finish_at, ho]; rfl
    refine step_lone_go ?_
    rw [hg, ← hfin]; simp [stepG.apply, hr]) h

/-- A send into a channel with room. -/
theorem Rn.send {ops : Array Oper} {i : Nat} {rest : List Nat} {o : Oper} {c cap s r : Nat} {buf : Array Value} {tm : Bool} {v z : Value} (hk : b.kind ≠ .early) (ho : ops[i]? = some o) (hw : Region.wanted o (yielded ops a.tmps) = true)
    (hr : (execOp a.eval o).run P w = .ok (.comm #[scase c v z] true .send) w) (hc : w.heap[c]? = some (.chan cap buf false s r tm)) (hroom : buf.size < cap)
    (h : Rn P b R (.inRegion ops rest :: k) (a.put o.dst undef) (w.setChan c cap (buf.push v) false (s + 1) r tm)) : Rn P b R (.inRegion ops (i :: rest) :: k) a w :=
  .step (fun cs => by
    have hfin : (b.at a (.inRegion ops (i :: rest) :: k)).finish undef = b.at (a.put o.dst undef) (.inRegion ops rest :: k) := by rw [Frame.finish_at, ho]; rfl
    rw [lone_eq_solo, lone_eq_solo, ← hfin]
    exact step_lone_send_room (stepG_comm ho hw hk hr) hc hroom) h

/-- A receive from a channel that holds something. -/
theorem Rn.recv {ops : Array Oper} {i : Nat} {rest : List Nat} {o : Oper} {c cap s r : Nat} {buf : Array Value} {closed tm : Bool} {z : Value} (ok : Bool) (hk : b.kind ≠ .early) (ho : ops[i]? = some o) (hw : Region.wanted o (yielded ops a.tmps) = true)
    (hr : (execOp a.eval o).run P w = .ok (.comm #[rcase c z] true (.recv ok)) w) (hc : w.heap[c]? = some (.chan cap buf closed s r tm)) (hsome : 0 < buf.size)
    (h : Rn P b R (.inRegion ops rest :: k) (a.put o.dst (got ok (buf.getD 0 undef) true)) (w.setChan c cap (buf.extract 1 buf.size) closed s (r + 1) tm)) : Rn P b R (.inRegion ops (i :: rest) :: k) a w :=
  .step (fun cs => by
    have hfin : (b.at a (.inRegion ops (i :: rest) :: k)).finish (got ok (buf.getD 0 undef) true) = b.at (a.put o.dst (got ok (buf.getD 0 undef) true)) (.inRegion ops rest :: k) := by rw [Frame.finish_at, ho]; rfl
    rw [lone_eq_solo, lone_eq_solo, ← hfin]
    exact step_lone_recv_buf ok (stepG_comm ho hw hk hr) hc hsome) h

/-- A receive from a closed channel that holds nothing. -/
theorem Rn.shut {ops : Array Oper} {i : Nat} {rest : List Nat} {o : Oper} {c cap s r : Nat} {tm : Bool} {z : Value} (ok : Bool) (hk : b.kind ≠ .early) (ho : ops[i]? = some o) (hw : Region.wanted o (yielded ops a.tmps) = true)
    (hr : (execOp a.eval o).run P w = .ok (.comm #[rcase c z] true (.recv ok)) w) (hc : w.heap[c]? = some (.chan cap #[] true s r tm))
    (h : Rn P b R (.inRegion ops rest :: k) (a.put o.dst (got ok z false)) w) : Rn P b R (.inRegion ops (i :: rest) :: k) a w :=
  .step (fun cs => by
    have hfin : (b.at a (.inRegion ops (i :: rest) :: k)).finish (got ok z false) = b.at (a.put o.dst (got ok z false)) (.inRegion ops rest :: k) := by rw [Frame.finish_at, ho]; rfl
    rw [lone_eq_solo, lone_eq_solo, ← hfin]
    exact step_lone_recv_shut ok (stepG_comm ho hw hk hr) hc) h
end

/-- From the walk of its frame the contract of a function. -/
theorem calls_of_rn {P : Program} {f : FuncId} {fn : Func} {c : Code} {args : Array Value} {w : World} {R : Ending → World → Prop} (hf : P.funcs[f]? = some fn) (hb : fn.body = some c)
    (h : Rn P { (default : Frame) with fn := f, kind := .normal } R [.code c] { tmps := args ++ Array.replicate (fn.ntmps - args.size) undef, defers := [] } w) : Calls P f args w R := by
  intro cs
  have henter : Frame.enter P f args .normal = ({ (default : Frame) with fn := f, kind := .normal } : Frame).at { tmps := args ++ Array.replicate (fn.ntmps - args.size) undef, defers := [] } [.code c] := by
    simp [Frame.enter, Frame.at, hf, hb]
  obtain ⟨v, w', fr, hR, hs, hfn, hl⟩ := h cs
  exact ⟨.returned v, w', fr, hR, by rw [henter]; exact hs, hfn, hl⟩
end Go.Proofs.YtfmbebofllgmoaaDoor
namespace Go.Proofs.YtfmbebofllgmoaaDoor
open Go.RowKit Go.Conc

def exNo (K : Act → World → Prop) : Exit → Act → World → Prop
  | .normal, a, w => K a w
  | _, _, _ => False
theorem Rn.go {P : Program} {b : Frame} {R : Ending → World → Prop} {k : List Item} {a : Act} {w : World} {c : Code} (h : c.wp P (exNo (Rn P b R k)) a w) : Rn P b R (.code c :: k) a w :=
  Rn.code (Q := Rn P b R k) (ret := fun _ _ => False) (ex := fun _ _ _ => False) (wp_mono h (fun e a w h => by cases e <;> exact h)) (fun _ _ h => h) (fun _ _ h => h.elim) (fun _ _ _ h => h.elim)

theorem mkI (n : Nat) (hn : n ≤ 5000000) (w : World) : (Instr.makeChan 89 (.int .i64 n)).run Tryd.prog w = .ok (.chan (some w.heap.size)) (w.alloc (.chan n #[] false 0 0 false)) := by
  have h : (Tryd.prog.info? 3).map (·.bytes) = some 8 := by kernel_rfl
  obtain ⟨i, hi, hb⟩ := Option.map_eq_some_iff.1 h
  exact run_makeChan (P := Tryd.prog) (w := w) Tryd.underlying89 hi .i64 n (by omega) (by rw [hb]; omega)

theorem enter_tmps (v : Value) (n m : Nat) (l : List Value) (h : n - 1 = m) (hl : l = v :: List.replicate m undef) : (#[v] ++ Array.replicate (n - (#[v] : Array Value).size) undef) = l.toArray := by
  subst hl
  simp [h]

theorem exNo_normal {K : Act → World → Prop} {a : Act} {w : World} (h : K a w) : exNo K .normal a w := h
theorem push_set_last (h : Array Obj) (o o' : Obj) : (h.push o).setIfInBounds h.size o' = h.push o' := by
  apply Array.ext_getElem?
  intro i
  by_cases e : i = h.size
  · subst e; simp
  · simp [Array.getElem?_push, e, Ne.symm e]
theorem setChan_alloc (w : World) (o : Obj) (cap : Nat) (buf : Array Value) (cl : Bool) (s r : Nat) (tm : Bool) : (w.alloc o).setChan w.heap.size cap buf cl s r tm = w.alloc (.chan cap buf cl s r tm) :=
  congrArg (fun h => ({ w with heap := h } : World)) (push_set_last w.heap o _)
theorem close_alloc (w : World) (o o' : Obj) : ({ (w.alloc o) with heap := (w.alloc o).heap.setIfInBounds w.heap.size o' } : World) = w.alloc o' :=
  congrArg (fun h => ({ w with heap := h } : World)) (push_set_last w.heap o _)
theorem Rn.iter {P : Program} {b : Frame} {R : Ending → World → Prop} {k : List Item} {X : Code} (I : Nat → Act → World → Prop)
    (h : ∀ m a w, I m a w → (∀ m' a' w', m' < m → I m' a' w' → Rn P b R (.inLoop X :: k) a' w') → Rn P b R (.code X :: .inLoop X :: k) a w) (m : Nat) : ∀ a w, I m a w → Rn P b R (.code X :: .inLoop X :: k) a w := by
  induction m using Nat.strongRecOn with
  | _ m ih => exact fun a w hI => h m a w hI (fun m' a' w' hm hI' => Rn.inLoop (ih m' hm a' w' hI'))

theorem Rn.region' {P : Program} {b : Frame} {R : Ending → World → Prop} {k : List Item} {a : Act} {w : World} {id : Nat} {ops : Array Oper} (l : List Nat) (hl : List.range ops.size = l) (h : Rn P b R (.inRegion ops l :: k) a w) : Rn P b R (.code (.region id ops false) :: k) a w := Rn.region (hl ▸ h)
/-- The channel's block when i have been sent. -/
def fillW (w : World) (n : Nat) (ev : Nat → Value) (i : Nat) : World := w.alloc (.chan n ((List.range i).map ev).toArray false i 0 false)

theorem mkL (n : Nat) (hn : n ≤ 5000000) (w : World) : (Instr.makeChan 90 (.int .i64 n)).run Tryd.prog w = .ok (.chan (some w.heap.size)) (w.alloc (.chan n #[] false 0 0 false)) := by
  have h : (Tryd.prog.info? 22).map (·.bytes) = some 24 := by kernel_rfl
  obtain ⟨i, hi, hb⟩ := Option.map_eq_some_iff.1 h
  exact run_makeChan (P := Tryd.prog) (w := w) Tryd.underlying90 hi .i64 n (by omega) (by rw [hb]; omega)

set_option maxRecDepth 20000 in
theorem filled_any {w : World} (a0 : Option Addr) (n c : Nat) (ev : Nat → Value) (hn : n ≤ 5000000) (hc : ∀ i, i < n → ∃ q off, a0 = some ⟨q, off, none⟩ ∧ q < w.heap.size ∧ w.cell? ⟨q, off + i, none⟩ = some (ev i)) :
    Calls Tryd.prog 15 #[.slice a0 n c] w fun e w' => e = .returned (.chan (some w.heap.size)) ∧ w' = w.alloc (.chan n ((List.range n).map ev).toArray true n 0 false) := by
  refine calls_of_rn Tryd.func15 rfl ?_
  rw [Tryd.ntmps15, enter_tmps (.slice a0 n c) 20 19 [.slice a0 n c, undef, undef, undef, undef, undef, undef, undef, undef, undef, undef, undef, undef, undef, undef, undef, undef, undef, undef, undef] rfl rfl]
  have hmk := mkI n hn w
  refine Rn.seq (Rn.go ?_)
  go_wp2
  refine exNo_normal (Rn.seq (Rn.go ?_))
  go_wp2
  refine exNo_normal (Rn.seq (Rn.seq (Rn.go ?_)))
  go_wp2
  refine exNo_normal (Rn.block (Rn.loop ?_))
  refine Rn.iter (fun m a w' => ∃ i u5 u12 u13 u14 u15 u16 u17, i + m = n ∧ a = ⟨#[.slice a0 n c, undef, .chan none, .chan (some w.heap.size), undef, u5, .slice a0 n c, .int .i64 n, .chan (some w.heap.size), .slice a0 n c, .int .i64 n, .int .i64 (i : Nat), u12, u13, u14, u15, u16, u17, undef, undef], []⟩ ∧ w' = fillW w n ev i) ?_ n _ _
    ⟨0, _, _, _, _, _, _, _, by omega, rfl, rfl⟩
  rintro m _ _ ⟨i, u5, u12, u13, u14, u15, u16, u17, hi, rfl, rfl⟩ ih
  refine Rn.seq (Rn.go ?_)
  go_wp2
  refine exNo_normal (Rn.seq ?_)
  by_cases hlt : i < n
  · have hd : decide (i < n) = true := by simpa using hlt
    simp only [hd]
    refine Rn.cond (t := true) rfl ?_
    simp only [if_true]
    refine Rn.go ?_
    go_wp2
    refine exNo_normal (Rn.seq (Rn.block (Rn.seq (Rn.go ?_))))
    obtain ⟨q, off, rfl, hq, hci⟩ := hc i hlt
    have hcell : (fillW w n ev i).cell? ⟨q, off + i, none⟩ = some (ev i) := (World.cell?_of_block (w := w) (a := ⟨q, off + i, none⟩) (Below.heap_alloc _ _ _ hq)).trans hci
    go_wp2
    refine exNo_normal (Rn.region' [0, 1, 2] rfl ?_)
    refine Rn.op rfl rfl rfl ?_
    refine Rn.op rfl rfl rfl ?_
    refine Rn.send (c := w.heap.size) (cap := n) (buf := ((List.range i).map ev).toArray) (s := i) (r := 0) (tm := false) (v := ev i) (z := .tuple #[]) (by decide) rfl rfl (by simp [execOp, scase, Act.eval, Act.put]) (heap_alloc_new _ _) (by simpa using hlt) ?_
    rw [show (fillW w n ev i).setChan w.heap.size n (((List.range i).map ev).toArray.push (ev i)) false (i + 1) 0 false = fillW w n ev (i + 1) by
      rw [fillW, setChan_alloc, fillW, List.range_succ, List.map_append]; simp]
    refine Rn.regionEnd (Rn.inBlock (Rn.go ?_))
    simp only [Act.put]
    have hw1 : IntKind.i64.wrap ((i : Int) + 1) = ((i + 1 : Nat) : Int) := by rw [IntKind.wrap_i64]; omega
    go_wp2
    refine exNo_normal (ih (m - 1) _ _ (by omega) ⟨i + 1, _, _, _, _, _, _, _, by omega, rfl, rfl⟩)
  · have hd : decide (i < n) = false := by simpa using hlt
    have hin : i = n := by omega
    subst hin
    simp only [hd]
    refine Rn.cond (t := false) rfl ?_
    simp only [if_false, Bool.false_eq_true]
    refine Rn.exit rfl (Rn.seq (Rn.go ?_))
    have hcl := fun ats ty => run_close_open (P := Tryd.prog) (w := fillW w i ev i) ats ty (heap_alloc_new w _)
    go_wp2
    refine exNo_normal (Rn.seq (Rn.go ?_))
    go_wp2
    refine exNo_normal (Rn.ret rfl rfl Tryd.func15 (by simp [results, Tryd.results15, go_sem]) ⟨rfl, close_alloc w _ _⟩)
set_option maxRecDepth 20000 in
theorem filledL_any {w : World} (a0 : Option Addr) (n c : Nat) (ev : Nat → Value) (hn : n ≤ 5000000) (hc : ∀ i, i < n → ∃ q off, a0 = some ⟨q, off, none⟩ ∧ q < w.heap.size ∧ w.cell? ⟨q, off + i, none⟩ = some (ev i)) :
    Calls Tryd.prog 16 #[.slice a0 n c] w fun e w' => e = .returned (.chan (some w.heap.size)) ∧ w' = w.alloc (.chan n ((List.range n).map ev).toArray true n 0 false) := by
  refine calls_of_rn Tryd.func16 rfl ?_
  rw [Tryd.ntmps16, enter_tmps (.slice a0 n c) 20 19 [.slice a0 n c, undef, undef, undef, undef, undef, undef, undef, undef, undef, undef, undef, undef, undef, undef, undef, undef, undef, undef, undef] rfl rfl]
  have hmk := mkL n hn w
  refine Rn.seq (Rn.go ?_)
  go_wp2
  refine exNo_normal (Rn.seq (Rn.go ?_))
  go_wp2
  refine exNo_normal (Rn.seq (Rn.seq (Rn.go ?_)))
  go_wp2
  refine exNo_normal (Rn.block (Rn.loop ?_))
  refine Rn.iter (fun m a w' => ∃ i u5 u12 u13 u14 u15 u16 u17, i + m = n ∧ a = ⟨#[.slice a0 n c, undef, .chan none, .chan (some w.heap.size), undef, u5, .slice a0 n c, .int .i64 n, .chan (some w.heap.size), .slice a0 n c, .int .i64 n, .int .i64 (i : Nat), u12, u13, u14, u15, u16, u17, undef, undef], []⟩ ∧ w' = fillW w n ev i) ?_ n _ _
    ⟨0, _, _, _, _, _, _, _, by omega, rfl, rfl⟩
  rintro m _ _ ⟨i, u5, u12, u13, u14, u15, u16, u17, hi, rfl, rfl⟩ ih
  refine Rn.seq (Rn.go ?_)
  go_wp2
  refine exNo_normal (Rn.seq ?_)
  by_cases hlt : i < n
  · have hd : decide (i < n) = true := by simpa using hlt
    simp only [hd]
    refine Rn.cond (t := true) rfl ?_
    simp only [if_true]
    refine Rn.go ?_
    go_wp2
    refine exNo_normal (Rn.seq (Rn.block (Rn.seq (Rn.go ?_))))
    obtain ⟨q, off, rfl, hq, hci⟩ := hc i hlt
    have hcell : (fillW w n ev i).cell? ⟨q, off + i, none⟩ = some (ev i) := (World.cell?_of_block (w := w) (a := ⟨q, off + i, none⟩) (Below.heap_alloc _ _ _ hq)).trans hci
    go_wp2
    refine exNo_normal (Rn.region' [0, 1, 2] rfl ?_)
    refine Rn.op rfl rfl rfl ?_
    refine Rn.op rfl rfl rfl ?_
    refine Rn.send (c := w.heap.size) (cap := n) (buf := ((List.range i).map ev).toArray) (s := i) (r := 0) (tm := false) (v := ev i) (z := .tuple #[]) (by decide) rfl rfl (by simp [execOp, scase, Act.eval, Act.put]) (heap_alloc_new _ _) (by simpa using hlt) ?_
    rw [show (fillW w n ev i).setChan w.heap.size n (((List.range i).map ev).toArray.push (ev i)) false (i + 1) 0 false = fillW w n ev (i + 1) by
      rw [fillW, setChan_alloc, fillW, List.range_succ, List.map_append]; simp]
    refine Rn.regionEnd (Rn.inBlock (Rn.go ?_))
    simp only [Act.put]
    have hw1 : IntKind.i64.wrap ((i : Int) + 1) = ((i + 1 : Nat) : Int) := by rw [IntKind.wrap_i64]; omega
    go_wp2
    refine exNo_normal (ih (m - 1) _ _ (by omega) ⟨i + 1, _, _, _, _, _, _, _, by omega, rfl, rfl⟩)
  · have hd : decide (i < n) = false := by simpa using hlt
    have hin : i = n := by omega
    subst hin
    simp only [hd]
    refine Rn.cond (t := false) rfl ?_
    simp only [if_false, Bool.false_eq_true]
    refine Rn.exit rfl (Rn.seq (Rn.go ?_))
    have hcl := fun ats ty => run_close_open (P := Tryd.prog) (w := fillW w i ev i) ats ty (heap_alloc_new w _)
    go_wp2
    refine exNo_normal (Rn.seq (Rn.go ?_))
    go_wp2
    refine exNo_normal (Rn.ret rfl rfl Tryd.func16 (by simp [results, Tryd.results16, go_sem]) ⟨rfl, close_alloc w _ _⟩)
end Go.Proofs.YtfmbebofllgmoaaDoor
namespace Go.Proofs.YtfmbebofllgmoaaDoor
open Go.RowKit
attribute [local go_sem ↓] Go.wp_at_zero Go.wp_at_succ

/-- The block of a slice's own row. -/
def own (v : Value) (k : Nat) : Prop := v.ownBlock = some k
/-- The cells of bytes. -/
def u8s (b : ByteArray) : List Value := b.data.toList.map fun x => Value.int .u8 (x.toNat : Int)
/-- A slice of bytes that is nobody else's. -/
def OwnB (w : World) (B : Nat) (v : Value) (b : ByteArray) : Prop :=
  w.ownsRow B 5 1 v b.size (u8s b) ∨ (∃ g, v = .slice (some ⟨g, 0, none⟩) b.size b.size ∧ B ≤ g ∧ g < w.heap.size ∧ ∀ j u, (u8s b)[j]? = some u → w.cell? ⟨g, 0 + j, none⟩ = some u)
theorem addr_add (g off j : Nat) : (⟨g, off, none⟩ : Addr).add j = ⟨g, off + j, none⟩ := by
  unfold Addr.add
  split
  · subst_vars; rfl
  · rfl
theorem OwnB.bump {w : World} {B : Nat} {v : Value} {b : ByteArray} (h : OwnB w B v b) : ∀ k, own v k → B ≤ k ∧ k < w.heap.size := by
  intro k hk
  rcases h with h | ⟨g, rfl, h1, h2, _⟩
  · exact World.ownsRow.lt h k hk
  · simp only [own, Value.ownBlock, Option.some.injEq] at hk
    subst hk
    exact ⟨h1, h2⟩
theorem OwnB.block {w w' : World} {B : Nat} {v : Value} {b : ByteArray} (h : OwnB w B v b) (hb : ∀ q, own v q → w'.heap[q]? = w.heap[q]?) : OwnB w' B v b := by
  rcases h with h | ⟨g, rfl, h1, h2, h3⟩
  · exact .inl (ownsRow_of_block h hb)
  · have e := hb g rfl
    refine .inr ⟨g, rfl, h1, ?_, fun j u hj => ?_⟩
    · rw [Array.getElem?_eq_getElem h2] at e
      exact (Array.getElem?_eq_some_iff.1 e).1
    · rw [World.cell?_of_block (w := w) (a := ⟨g, 0 + j, none⟩) e]
      exact h3 j u hj
theorem OwnB.alloc {w : World} {B : Nat} {v : Value} {b : ByteArray} (h : OwnB w B v b) (o : Obj) : OwnB (w.alloc o) B v b := h.block fun q hq => Below.heap_alloc _ _ _ (h.bump q hq).2
theorem OwnB.shape {w : World} {B : Nat} {v : Value} {b : ByteArray} (h : OwnB w B v b) : ∃ a n c, v = .slice a n c := by
  rcases h with h | ⟨g, rfl, _⟩
  · rcases h.2 with ⟨h1, _⟩ | ⟨g, cap, cur, hv, _⟩
    · exact ⟨_, _, _, h1⟩
    · exact ⟨_, _, _, hv⟩
  · exact ⟨_, _, _, rfl⟩
theorem OwnB.low {w : World} {B B' : Nat} {v : Value} {b : ByteArray} (h : OwnB w B v b) (hB : B' ≤ B) : OwnB w B' v b := by
  rcases h with h | ⟨g, h0, h1, h2⟩
  · exact .inl ⟨h.1, h.2.imp id fun ⟨g, cap, cur, e1, e2, r⟩ => ⟨g, cap, cur, e1, by omega, r⟩⟩
  · exact .inr ⟨g, h0, by omega, h2⟩
theorem u8s_length (b : ByteArray) : (u8s b).length = b.size := by simp [u8s]
theorem u8s_append (a b : ByteArray) : u8s (a ++ b) = u8s a ++ u8s b := by simp [u8s]
theorem info5 : ∃ i, Tryd.prog.info? 5 = some i ∧ i.zero = some (.int .u8 0) ∧ i.size = 1 ∧ i.bytes = 1 := by
  have h : (Tryd.prog.info? 5).map (fun i => (i.zero, i.size, i.bytes)) = some (some (.int .u8 0), 1, 1) := by kernel_rfl
  obtain ⟨i, hi, hb⟩ := Option.map_eq_some_iff.1 h
  injection hb with h1 h2
  injection h2 with h2 h3
  exact ⟨i, hi, h1, h2, h3⟩

/-- Bytes are put behind a slice's own. -/
theorem wpList_bytes {ops : Array Oper} {rest : List Oper} {o : Oper} {a : Act} {Q : Exit → Act → World → Prop} {w : World} {B : Nat} {v : Value} {b c : ByteArray} (hgd : o.guard = none) (sv xv : Operand)
    (ho : o.op = .call { callee := .builtin .append, args := #[sv, xv], argTypes := #[64, 64] }) {ad : Addr} {cap : Nat}
    (hs : a.eval sv = v) (hx : a.eval xv = .slice (some ad) c.size cap) (hrow : OwnB w B v b) (hc : ∀ j u, (u8s c)[j]? = some u → w.cell? (ad.add j) = some u) (h0 : 0 < c.size) (hn : b.size + c.size ≤ 1000000000) (hB : B ≤ w.heap.size)
    (h : ∀ v' w', OwnB w' B v' (b ++ c) → Fr (own v) w w' (own v') → wpList Tryd.prog ops Q rest (a.put o.dst v') w') : wpList Tryd.prog ops Q (o :: rest) a w := by
  obtain ⟨i, hi, hz, hs1, hby⟩ := info5
  have hm : b.size + c.size ≤ maxLen := by simp only [maxLen]; omega
  rcases hrow with hrow | ⟨g0, hg0, hgB, hgl, hgc⟩
  · refine wpList_append_lies _ hgd sv xv 64 ho B 5 i _ 1 1 Tryd.underlying64 hi hz hs1 hby rfl (by omega) v b.size _ hs hrow ad c.size cap (u8s c) hx (by rw [u8s_length]; omega) hc (by simp [u8s, Value.oneCell']) h0 hm (by omega) hB w.heap.size rfl ?_
    intro g cp w' h1 h2 h3 h4
    refine h _ w' ?_ ?_
    · refine .inl ?_
      rw [ByteArray.size_append, u8s_append]
      exact h1
    · refine ⟨h2.os, h2.tape, h2.output, h2.size, fun k hk hn => h2.block k hk (fun e => hn e.symm), ?_⟩
      intro k hk e
      simp only [own, Value.ownBlock, Option.some.injEq] at e
      subst e
      rcases h3 with h3 | h3
      · exact h3
      · omega
  · subst hg0
    refine wpList_plain hgd fun K hK => ?_
    obtain ⟨v', w', hr, h1, h2⟩ := run_append_arg_grows (P := Tryd.prog) w 64 o.type 5 i _ 1 1 Tryd.underlying64 hi hz hs1 hby rfl (by omega) ⟨g0, 0, none⟩ b.size b.size (u8s b) (by rw [u8s_length]; omega) (fun j u hj => by rw [addr_add]; exact hgc j u hj) ad c.size cap (u8s c) (by rw [u8s_length]; omega) hc (by omega) hm (by omega)
    unfold Oper.wp execOp
    simp only [ho, resolve, invoke, builtin, Sem.run_bind, Sem.run_pure, Result.andThen_ok, List.map_toArray, List.map_cons, List.map_nil, hs, hx, hr]
    refine hK _ _ (h v' w' (.inl ?_) ?_)
    · rw [ByteArray.size_append, u8s_append]
      exact ⟨h1.1, h1.2.imp id fun ⟨g, cap, cur, e1, e2, r⟩ => ⟨g, cap, cur, e1, by omega, r⟩⟩
    · refine ⟨h2.os, h2.tape, h2.output, h2.size, fun k hk _ => h2.block k hk (by simp), fun k hk e => ?_⟩
      have := (World.ownsRow.lt h1 k e).1
      omega

theorem u8_nat (z : Int) (h0 : 0 ≤ z) (h1 : z < 256) : ((UInt8.ofNat z.toNat).toNat : Int) = z := by
  rw [UInt8.toNat_ofNat']
  omega
theorem push_eq (b : ByteArray) (x : UInt8) : b ++ ByteArray.empty.push x = b.push x := by
  apply ByteArray.ext
  simp
/-- One byte is put behind a slice's own. -/
theorem wpList_byte {ops : Array Oper} {rest : List Oper} {o : Oper} {a : Act} {Q : Exit → Act → World → Prop} {w : World} {B : Nat} {v : Value} {b : ByteArray} (hgd : o.guard = none) (sv xv : Operand)
    (ho : o.op = .call { callee := .builtin .append, args := #[sv, xv], argTypes := #[64, 64] }) {z : Int}
    (hs : a.eval sv = v) (hx : a.eval xv = .slice (some ⟨w.heap.size, 0, none⟩) 1 1) (hrow : OwnB w B v b) (h0 : 0 ≤ z) (h1 : z < 256) (hn : b.size ≤ 999999999) (hB : B ≤ w.heap.size)
    (h : ∀ v' w', OwnB w' B v' (b.push (UInt8.ofNat z.toNat)) → Fr (own v) w w' (own v') → wpList Tryd.prog ops Q rest (a.put o.dst v') w') : wpList Tryd.prog ops Q (o :: rest) a (w.alloc (.cells #[.int .u8 z] 5)) := by
  refine wpList_bytes (c := ByteArray.empty.push (UInt8.ofNat z.toNat)) hgd sv xv ho hs (by simpa using hx) (hrow.alloc _) ?_ (by simp) (by simp; omega) (by simp; omega) ?_
  · intro j u hu
    have hl : u8s (ByteArray.empty.push (UInt8.ofNat z.toNat)) = [.int .u8 z] := by simp [u8s]; omega
    rw [hl] at hu
    cases j with
    | zero =>
      simp at hu
      subst hu
      exact cell_of_row _ _ 0 _ 5 (0, 0) (heap_alloc_new _ _)
    | succ j => simp at hu
  · intro v' w' h2 h3
    refine h v' w' (by rwa [push_eq] at h2) ⟨h3.os, h3.tape, h3.output, Nat.le_trans (by simp) h3.size, fun k hk hn => (h3.same k (by simp; omega) hn).trans (Below.heap_alloc _ _ _ hk), fun k hk e => h3.old k (by simp; omega) e⟩


set_option maxHeartbeats 1000000 in
set_option maxRecDepth 20000 in
/-- The varint of n is put behind b. -/
theorem appendVarint_any {w : World} {B : Nat} {v : Value} {b : ByteArray} (h : OwnB w B v b) (n : Nat) (hn : n < 4611686018427387904) (hb : b.size + (varS n).size ≤ 1000000000) (hB : B ≤ w.heap.size) :
    Calls Tryd.prog 39 #[v, .int .i64 n] w fun e w' => ∃ v', e = .returned v' ∧ OwnB w' B v' (b ++ varS n) ∧ Fr (own v) w w' (own v') := by
  have H := hide h
  clear h
  go_enter Tryd.func39, Tryd.ntmps39
  go_wp2
  go_loopw [0, 1] (fun u i wr => ∃ (m : Nat) (c : ByteArray), i = .int .i64 m ∧ m < 4611686018427387904 ∧ c ++ varS m = b ++ varS n ∧ OwnB wr B u c ∧ Fr (own v) w wr (own u)) (fun _ i _ => (intOf i).toNat)
  case atStart => exact ⟨n, b, rfl, hn, rfl, unhide H, Fr.refl _ _⟩
  case round =>
    obtain ⟨m, c, rfl, hm, he, ho, hf⟩ := hrel
    have hcs : c.size + (varS m).size ≤ 1000000000 := by rw [← ByteArray.size_append, he, ByteArray.size_append]; exact hb
    have h1s := (varS_size m).1
    have HE := hide he
    have HO := hide ho
    have HF := hide hf
    have hBw : B ≤ wr.heap.size := Nat.le_trans hB hf.size
    clear he ho hf
    by_cases hlt : m < 128
    · have hv : varS m = ByteArray.empty.push (UInt8.ofNat m) := by rw [varS_eq, if_pos hlt]
      have hge : ¬ (128 : Int) ≤ m := by omega
      have hw2 : IntKind.u8.wrap (m : Int) = m := by simp [IntKind.wrap, IntKind.bits, IntKind.signed]; omega
      have HV := hide hv
      have HL := hide (show c.size ≤ 999999999 by omega)
      clear hv hcs h1s
      go_wp2_with (at_builtin; refine wpList_byte rfl (.tmp 16) (.tmp 19) rfl rfl rfl (unhide HO) (show (0 : Int) ≤ m by omega) (show (m : Int) < 256 by omega) (unhide HL) hBw ?_; intro v' w' o' f'; have O' := hide o'; have F' := hide f'; clear o' f')
      go_ret
      refine ⟨_, rfl, ?_, (unhide HF).trans (unhide F')⟩
      rw [← unhide HE, unhide HV, push_eq]
      exact unhide O'
    · have hv : varS m = ByteArray.empty.push (UInt8.ofNat (m % 128 + 128)) ++ varS (m / 128) := by rw [varS_eq, if_neg hlt]
      have hge : (128 : Int) ≤ m := by omega
      have hmod : ((m : Int)).tmod 128 = ((m % 128 : Nat) : Int) := by rw [Int.tmod_eq_emod_of_nonneg (by omega)]; omega
      have hdiv : ((m : Int)).tdiv 128 = ((m / 128 : Nat) : Int) := by rw [Int.tdiv_eq_ediv_of_nonneg (by omega)]; omega
      have hql : m / 128 < m := by omega
      have hr : m % 128 < 128 := by omega
      have HV := hide hv
      have HL := hide (show c.size ≤ 999999999 by omega)
      clear hv hcs h1s
      generalize hQ : m / 128 = q at *
      generalize m % 128 = r at *
      have hw1 : IntKind.i64.wrap ((r : Int) + 128) = (r : Int) + 128 := by rw [IntKind.wrap_i64]; omega
      have hw3 : IntKind.i64.wrap (q : Int) = q := by rw [IntKind.wrap_i64]; omega
      have hw2 : IntKind.u8.wrap ((r : Int) + 128) = (r : Int) + 128 := by simp [IntKind.wrap, IntKind.bits, IntKind.signed]; omega
      go_wp2_with (at_builtin; refine wpList_byte rfl (.tmp 7) (.tmp 12) rfl rfl rfl (unhide HO) (show (0 : Int) ≤ (r : Int) + 128 by omega) (show (r : Int) + 128 < 256 by omega) (unhide HL) hBw ?_; intro v' w' o' f'; have O' := hide o'; have F' := hide f'; clear o' f')
      go_roundw
      case rel =>
        refine ⟨q, _, rfl, by omega, ?_, unhide O', (unhide HF).trans (unhide F')⟩
        rw [← unhide HE, unhide HV, ← push_eq, ByteArray.append_assoc]
        rfl
      case measure => simp [intOf]; omega

/-- Bytes in memory that may be read. -/
def BytesAt (w : World) (v : Value) (b : ByteArray) : Prop := ∃ g off cap, v = .slice (some ⟨g, off, none⟩) b.size cap ∧ ∀ j u, (u8s b)[j]? = some u → w.cell? ⟨g, off + j, none⟩ = some u
theorem OwnB.bytes {w : World} {B : Nat} {v : Value} {b : ByteArray} (h : OwnB w B v b) (h0 : 0 < b.size) : ∃ g cap, v = .slice (some ⟨g, 0, none⟩) b.size cap ∧ B ≤ g ∧ (∀ j u, (u8s b)[j]? = some u → w.cell? ⟨g, 0 + j, none⟩ = some u) := by
  rcases h with h | ⟨g, hv, hB, _, hc⟩
  case inr => exact ⟨g, _, hv, hB, hc⟩
  rcases h.2 with ⟨_, h1⟩ | ⟨g, cap, cur, hv, hB, hg, h1, h2, h3, h4⟩
  · omega
  refine ⟨g, cap, hv, hB, fun j u hj => ?_⟩
  rw [Nat.zero_add, cell_of_row w g j cur 5 (0, 0) hg]
  rw [← h4, List.getElem?_take] at hj
  split at hj
  · rw [Array.getElem?_toList] at hj; exact hj
  · cases hj
theorem OwnB.at {w : World} {B : Nat} {v : Value} {b : ByteArray} (h : OwnB w B v b) (h0 : 0 < b.size) : BytesAt w v b := by
  obtain ⟨g, cap, hv, _, hc⟩ := h.bytes h0
  exact ⟨g, 0, cap, hv, hc⟩
theorem u8s_get (b : ByteArray) (j : Nat) (h : j < b.size) : (u8s b)[j]? = some (.int .u8 ((b.data.toList[j]'(by simpa using h)).toNat : Int)) := by
  have hj : j < b.data.toList.length := by simpa using h
  rw [u8s, List.getElem?_map, List.getElem?_eq_getElem hj]
  rfl

set_option maxHeartbeats 1000000 in
set_option maxRecDepth 20000 in
/-- The sum of bytes. -/
theorem psum_any {w : World} {v : Value} {b : ByteArray} (h : BytesAt w v b) (hs : b.size ≤ 1000000000) : Calls Tryd.prog 48 #[v] w fun e w' => e = .returned (.int .u32 (sumZ b.data.toList)) ∧ w' = w := by
  obtain ⟨g, off, cap, rfl, hc⟩ := h
  have HC := hide hc
  clear hc
  go_enter Tryd.func48, Tryd.ntmps48
  go_wp2
  go_loopw [3, 8] (fun h i wr => SumRel b w h i wr) (fun _ i _ => b.size - (intOf i).toNat)
  case atStart => exact ⟨rfl, 0, Nat.zero_le _, rfl, rfl⟩
  case round =>
    obtain ⟨rfl, k, hk, rfl, rfl⟩ := hrel
    by_cases hlt : k < b.size
    · have hz := sumZ_succ b.data.toList k (by rw [Array.length_toList]; exact hlt)
      have HZ := hide hz
      have hcell := unhide HC k _ (u8s_get b k hlt)
      clear hz
      generalize sumZ (b.data.toList.take k) = z at *
      go_wp2
      go_roundw
      case rel =>
        refine ⟨rfl, k + 1, hlt, by go_num, ?_⟩
        rw [unhide HZ]
        rfl
      case measure => simp [intOf]; omega
    · have e : b.data.toList.take k = b.data.toList := List.take_of_length_le (by rw [Array.length_toList]; exact Nat.le_of_not_lt hlt)
      rw [e]
      go_wp2
      go_ret
      exact ⟨rfl, rfl⟩

theorem b4_size (z : Int) : (b4 z).size = 4 := by unfold b4; simp
theorem b4_cells (z : Int) : u8s (b4 z) = [.int .u8 (z / 16777216 % 256), .int .u8 (z / 65536 % 256), .int .u8 (z / 256 % 256), .int .u8 (z % 256)] := by
  unfold u8s b4
  simp
  omega
theorem Fr.unalloc {S S' : Nat → Prop} {w w' : World} {o : Obj} (h : Fr S (w.alloc o) w' S') : Fr S w w' S' :=
  ⟨h.os, h.tape, h.output, Nat.le_trans (by simp) h.size, fun k hk hn => (h.same k (by simp; omega) hn).trans (Below.heap_alloc _ _ _ hk), fun k hk e => h.old k (by simp; omega) e⟩

set_option maxHeartbeats 1000000 in
set_option maxRecDepth 20000 in
/-- The sum of the body is put behind b. -/
theorem appendSum_any {w : World} {B : Nat} {v u : Value} {b c : ByteArray} (h : OwnB w B v b) (hu : BytesAt w u c) (hc : c.size ≤ 1000000000) (hb : b.size ≤ 900000000) (hB : B ≤ w.heap.size) :
    Calls Tryd.prog 40 #[v, u] w fun e w' => ∃ v', e = .returned v' ∧ OwnB w' B v' (b ++ sumS c) ∧ Fr (own v) w w' (own v') := by
  have h1 := psum_any hu hc
  have hS : sumS c = b4 (sumZ c.data.toList) := rfl
  generalize sumZ c.data.toList = z at *
  have HS := hide hS
  have H := hide (h.alloc (.cells #[.int .u8 (z / 16777216 % 256), .int .u8 (z / 65536 % 256), .int .u8 (z / 256 % 256), .int .u8 (z % 256)] 5))
  have HC := hide (b4_cells z)
  have H4 := hide (b4_size z)
  clear hS h hu
  go_enter Tryd.func40, Tryd.ntmps40
  go_wp2_with (first | (go_at_call 48; refine h1.mono ?_; rintro e w1 ⟨rfl, rfl⟩) | (at_builtin; refine wpList_bytes (c := b4 z) (ad := ⟨w1.heap.size, 0, none⟩) (cap := 4) rfl (.tmp 8) (.tmp 20) rfl rfl (by rw [unhide H4]; rfl) (unhide H) ?_ (by rw [unhide H4]; omega) (by rw [unhide H4]; omega) (by simp; omega) ?_))
  · rw [unhide HC]
    intro j u hu
    rw [addr_add, Nat.zero_add, cell_of_row _ _ j _ 5 (0, 0) (heap_alloc_new _ _)]
    simpa using hu
  · intro v' w' o' f'
    have O' := hide o'
    have F' := hide f'
    clear o' f'
    go_wp2
    go_ret
    refine ⟨_, rfl, ?_, (unhide F').unalloc⟩
    rw [unhide HS]
    exact unhide O'
end Go.Proofs.YtfmbebofllgmoaaDoor
namespace Go.Proofs.YtfmbebofllgmoaaDoor
open Go.RowKit
attribute [local go_sem ↓] Go.wp_at_zero Go.wp_at_succ

/-- In the midst of a body: the box of the input, the bytes so far. -/
structure BI (w : World) (x0 x1 x2 x3 : Value) (W : World) (v : Value) (b : ByteArray) : Prop where
  row : OwnB W w.heap.size v b
  fr : Fr (fun _ => False) w W (fun _ => False)
  new : ∀ k, own v k → w.heap.size < k
  box : W.heap[w.heap.size]? = some (.cells #[x0, x1, x2, x3] 82)
theorem Fr.fresh {S T T' : Nat → Prop} {w W w' : World} (h : Fr S w W S) (h' : Fr T W w' T') (hT : ∀ k, T k → w.heap.size ≤ k) : Fr S w w' S :=
  ⟨h'.os.trans h.os, h'.tape.trans h.tape, h'.output.trans h.output, Nat.le_trans h.size h'.size, fun k hk hn => (h'.same k (Nat.lt_of_lt_of_le hk h.size) (fun ht => by have := hT k ht; omega)).trans (h.same k hk hn), fun _ _ h => h⟩
theorem ownB_lit (w : World) (B : Nat) (z : Int) (h0 : 0 ≤ z) (h1 : z < 256) (hB : B ≤ w.heap.size) : OwnB (w.alloc (.cells #[.int .u8 z] 5)) B (.slice (some ⟨w.heap.size, 0, none⟩) 1 1) (ByteArray.empty.push (UInt8.ofNat z.toNat)) := by
  have hl : u8s (ByteArray.empty.push (UInt8.ofNat z.toNat)) = [.int .u8 z] := by simp [u8s]; omega
  refine .inl ?_
  rw [hl]
  exact ⟨by simp, .inr ⟨w.heap.size, 1, #[.int .u8 z], by simp, hB, heap_alloc_new _ _, by simp, by simp [maxLen], rfl, rfl⟩⟩
theorem BI.start (w : World) (x0 x1 x2 x3 : Value) (z : Int) (h0 : 0 ≤ z) (h1 : z < 256) : BI w x0 x1 x2 x3 ((w.alloc (.cells #[x0, x1, x2, x3] 82)).alloc (.cells #[.int .u8 z] 5)) (.slice (some ⟨w.heap.size + 1, 0, none⟩) 1 1) (ByteArray.empty.push (UInt8.ofNat z.toNat)) := by
  have hz : (w.alloc (.cells #[x0, x1, x2, x3] 82)).heap.size = w.heap.size + 1 := by simp
  refine ⟨?_, ((Fr.refl _ w).alloc _).alloc _, ?_, ?_⟩
  · have := ownB_lit (w.alloc (.cells #[x0, x1, x2, x3] 82)) w.heap.size z h0 h1 (by omega)
    rw [hz] at this
    exact this
  · intro k hk
    simp only [own, Value.ownBlock, Option.some.injEq] at hk
    omega
  · exact (Below.heap_alloc _ _ _ (by omega)).trans (heap_alloc_new w _)
theorem BI.cell {w : World} {x0 x1 x2 x3 : Value} {W : World} {v : Value} {b : ByteArray} (h : BI w x0 x1 x2 x3 W v b) (j : Nat) : W.cell? ⟨w.heap.size, j, none⟩ = (#[x0, x1, x2, x3] : Array Value)[j]? := cell_of_row W w.heap.size j _ 82 (0, 0) h.box
theorem BI.varint {w : World} {x0 x1 x2 x3 : Value} {W : World} {v : Value} {b : ByteArray} (h : BI w x0 x1 x2 x3 W v b) (m : Nat) (hm : m < 4611686018427387904) (hb : b.size ≤ 100000) :
    Calls Tryd.prog 39 #[v, .int .i64 m] W fun e w' => ∃ v', e = .returned v' ∧ BI w x0 x1 x2 x3 w' v' (b ++ varS m) := by
  have hsm := varS_small m hm
  refine (appendVarint_any h.row m hm (by omega) h.fr.size).mono ?_
  rintro e w' ⟨v', rfl, ho, hf⟩
  refine ⟨v', rfl, ho, h.fr.fresh hf (fun k hk => Nat.le_of_lt (h.new k hk)), ?_, ?_⟩
  · intro k hk
    by_cases hlt : k < W.heap.size
    · exact h.new k (hf.old k hlt hk)
    · have : w.heap.size < W.heap.size := (Array.getElem?_eq_some_iff.1 h.box).1
      omega
  · exact (hf.same _ (Array.getElem?_eq_some_iff.1 h.box).1 (fun hk => by have := h.new _ hk; omega)).trans h.box

set_option maxHeartbeats 1000000 in
set_option maxRecDepth 20000 in
/-- Clocks and ends. -/
theorem pbody_one (k : Nat) (o n : Nat) (fv : Value) (a : Option Addr) (l c : Nat) (hfv : fv = .slice a l c) (hk : k = 1 ∨ k = 5) (hn : n < 4611686018427387904) (w : World) :
    Calls Tryd.prog 38 #[.agg #[.int .i64 k, .int .i64 o, .int .i64 n, fv]] w fun e w' => ∃ v', e = .returned v' ∧ OwnB w' w.heap.size v' (bodyS k o n) ∧ Fr (fun _ => False) w w' (fun _ => False) := by
  subst hfv
  have hb : bodyS k o n = one k ++ varS n := by unfold bodyS; rw [if_neg (by omega)]
  have hwr : IntKind.u8.wrap (k : Int) = k := by rcases hk with rfl | rfl <;> rfl
  have hk2 : ((k : Int) == 2) = false := by rcases hk with rfl | rfl <;> rfl
  have hk3 : ((k : Int) == 3) = false := by rcases hk with rfl | rfl <;> rfl
  have hk4 : ((k : Int) == 4) = false := by rcases hk with rfl | rfl <;> rfl
  have h1 := (BI.start w (.int .i64 k) (.int .i64 o) (.int .i64 n) (.slice a l c) k (by omega) (by omega)).varint n hn (by simp)
  have he : ByteArray.empty.push (UInt8.ofNat ((k : Int)).toNat) = one k := by rw [Int.toNat_natCast]; rfl
  rw [he] at h1
  rw [hb]
  generalize one k ++ varS n = R at *
  clear hb he hk hn
  go_enter Tryd.func38, Tryd.ntmps38
  go_wp2_with (go_at_call 39; refine h1.mono ?_; rintro e w1 ⟨v1, rfl, b1⟩; have B1 := hide b1; clear b1)
  go_ret
  exact ⟨_, rfl, (unhide B1).row, (unhide B1).fr⟩

set_option maxHeartbeats 1000000 in
set_option maxRecDepth 20000 in
/-- Picks and lots. -/
theorem pbody_two (k : Nat) (o n : Nat) (fv : Value) (a : Option Addr) (l c : Nat) (hfv : fv = .slice a l c) (hk : k = 3 ∨ k = 4) (hn : n < 4611686018427387904) (ho : o < 4611686018427387904) (w : World) :
    Calls Tryd.prog 38 #[.agg #[.int .i64 k, .int .i64 o, .int .i64 n, fv]] w fun e w' => ∃ v', e = .returned v' ∧ OwnB w' w.heap.size v' (bodyS k o n) ∧ Fr (fun _ => False) w w' (fun _ => False) := by
  subst hfv
  have hb : bodyS k o n = one k ++ varS o ++ varS n := by unfold bodyS; rw [if_pos hk]
  have hwr : IntKind.u8.wrap (k : Int) = k := by rcases hk with rfl | rfl <;> rfl
  have hk2 : ((k : Int) == 2) = false := by rcases hk with rfl | rfl <;> rfl
  have hs1 : (one k).size = 1 := by unfold one; simp
  have hso := varS_small o ho
  have hbi := BI.start w (.int .i64 k) (.int .i64 o) (.int .i64 n) (.slice a l c) k (by omega) (by omega)
  have he : ByteArray.empty.push (UInt8.ofNat ((k : Int)).toNat) = one k := by rw [Int.toNat_natCast]; rfl
  rw [he] at hbi
  rw [hb]
  have HC : Hid (∀ W v b m, BI w (.int .i64 k) (.int .i64 o) (.int .i64 n) (.slice a l c) W v b → m < 4611686018427387904 → b.size ≤ 100000 → Calls Tryd.prog 39 #[v, .int .i64 (m : Nat)] W fun e w' => ∃ v', e = .returned v' ∧ BI w (.int .i64 k) (.int .i64 o) (.int .i64 n) (.slice a l c) w' v' (b ++ varS m)) := hide (fun W v b m h h1 h2 => h.varint m h1 h2)
  have HO := hide ho
  have HN := hide hn
  have Z1 := hide (show (one k).size ≤ 100000 by omega)
  have Z2 := hide (show (one k ++ varS o).size ≤ 100000 by rw [ByteArray.size_append]; omega)
  have B0 := hide hbi
  have c0 := hbi.cell
  clear hb he hn ho hbi hs1 hso c0
  generalize one k = O at *
  rcases hk with rfl | rfl
  · have hk3 : (((3 : Nat) : Int) == 3) = true := rfl
    go_enter Tryd.func38, Tryd.ntmps38
    go_wp2_with (go_at_call 39; refine (unhide HC _ _ _ _ (unhide B0) (by first | exact unhide HO | exact unhide HN) (by first | exact unhide Z1 | exact unhide Z2)).mono ?_; rintro e w1 ⟨v1, rfl, b1⟩; have ck := b1.cell; have B0 := hide b1; clear b1)
    go_ret
    exact ⟨_, rfl, (unhide B0).row, (unhide B0).fr⟩
  · have hk3 : (((4 : Nat) : Int) == 3) = false := rfl
    have hk4 : (((4 : Nat) : Int) == 4) = true := rfl
    go_enter Tryd.func38, Tryd.ntmps38
    go_wp2_with (go_at_call 39; refine (unhide HC _ _ _ _ (unhide B0) (by first | exact unhide HO | exact unhide HN) (by first | exact unhide Z1 | exact unhide Z2)).mono ?_; rintro e w1 ⟨v1, rfl, b1⟩; have ck := b1.cell; have B0 := hide b1; clear b1)
    go_ret
    exact ⟨_, rfl, (unhide B0).row, (unhide B0).fr⟩

def PBodyRel (l : List Int) (r0 : ByteArray) (w : World) (x0 x1 x2 x3 : Value) (u i : Value) (wr : World) : Prop :=
  ∃ (k : Nat), k ≤ l.length ∧ i = .int .i64 k ∧ BI w x0 x1 x2 x3 wr u (filesS (l.take k) r0) ∧ (filesS (l.take k) r0).size ≤ 100 + 64 * k

set_option maxHeartbeats 1000000 in
set_option maxRecDepth 20000 in
/-- Batches. -/
theorem pbody_files (o n : Int) (fv : Value) (l : List Int) {P : Nat → Prop} (w : World) (hP : ∀ q, P q → q < w.heap.size) (hl : IntsIn w fv l P) (h8 : l.length ≤ 8) (hz : ∀ z, z ∈ l → 0 ≤ z ∧ z < 8) :
    Calls Tryd.prog 38 #[.agg #[.int .i64 2, .int .i64 o, .int .i64 n, fv]] w fun e w' => ∃ v', e = .returned v' ∧ OwnB w' w.heap.size v' (batchS l) ∧ Fr (fun _ => False) w w' (fun _ => False) := by
  obtain ⟨a, c, rfl, hc⟩ := hl
  have hlen : l.length < 4611686018427387904 := by omega
  have hs2 := varS_small l.length hlen
  have h1s : (one 2).size = 1 := by unfold one; simp
  have hr0 : (one 2 ++ varS l.length).size ≤ 100 := by rw [ByteArray.size_append]; omega
  have hbs : batchS l = filesS l (one 2 ++ varS l.length) := rfl
  have hbi := BI.start w (.int .i64 2) (.int .i64 o) (.int .i64 n) (.slice a l.length c) 2 (by omega) (by omega)
  have he : ByteArray.empty.push (UInt8.ofNat ((2 : Int)).toNat) = one 2 := rfl
  rw [he] at hbi
  have h1 := hbi.varint l.length hlen (by omega)
  have h2 : ∀ (W : World) (u : Value) (b : ByteArray) (m : Nat), BI w (.int .i64 2) (.int .i64 o) (.int .i64 n) (.slice a l.length c) W u b → m < 8 → b.size ≤ 100000 → Calls Tryd.prog 39 #[u, .int .i64 m] W fun e w' => ∃ v', e = .returned v' ∧ BI w (.int .i64 2) (.int .i64 o) (.int .i64 n) (.slice a l.length c) w' v' (b ++ varS m) := fun W u b m h hm hb => h.varint m (by omega) hb
  have h3 : ∀ m : Nat, m < 8 → (varS m).size ≤ 64 := fun m hm => varS_small m (by omega)
  generalize one 2 = O at *
  generalize hvl : varS l.length = V at *
  have HC := hide hc
  have HP := hide hP
  have HZ := hide hz
  have H2 := hide h2
  have H3 := hide h3
  have HR0 := hide hr0
  have HBS := hide hbs
  clear hc hP hz h2 h3 hr0 hbs hs2 h1s hvl hlen hbi he
  go_enter Tryd.func38, Tryd.ntmps38
  go_wp2_with (go_at_call 39; refine h1.mono ?_; rintro e w1 ⟨v1, rfl, b1⟩; have ck := b1.cell; have B1 := hide b1; clear b1)
  go_loopw [3, 26] (fun u i wr => PBodyRel l (O ++ V) w (.int .i64 2) (.int .i64 o) (.int .i64 n) (.slice a l.length c) u i wr) (fun _ i _ => l.length - (intOf i).toNat)
  case atStart => exact ⟨0, Nat.zero_le _, rfl, unhide B1, unhide HR0⟩
  case round =>
    obtain ⟨k, hk, rfl, hbi, hsize⟩ := hrel
    by_cases hlt : k < l.length
    · rcases unhide HC with hz | ⟨q, off, rfl, hq, hcell⟩
      · rw [hz] at hlt; simp at hlt
      have cz := (hbi.fr.cell q (off + k) (unhide HP q hq) (fun h => h)).trans (hcell k hlt)
      have hget : l.getD k 0 = l[k] := by simp [List.getD, hlt]
      rw [hget] at cz
      have HSU := hide (filesS_succ l (O ++ V) k hlt)
      obtain ⟨z0, z8⟩ := unhide HZ l[k] (List.getElem_mem hlt)
      clear hcell hget
      generalize l[k] = z at *
      obtain ⟨m, rfl⟩ : ∃ m : Nat, z = m := ⟨z.toNat, by omega⟩
      have hvs := unhide H3 m (by omega)
      have h7 := unhide H2 _ _ _ m hbi (by omega) (by omega)
      rw [Int.toNat_natCast] at HSU
      clear hbi
      generalize varS m = U at *
      generalize filesS (l.take k) (O ++ V) = R at *
      have HSZ := hide hsize
      have HVS := hide hvs
      clear hsize hvs
      go_wp2_with (go_at_call 39; refine h7.mono ?_; rintro e w2 ⟨v2, rfl, b2⟩; have B2 := hide b2; clear b2)
      go_roundw
      case rel =>
        have h5 := unhide HSZ
        have h6 := unhide HVS
        refine ⟨k + 1, by omega, by go_num, by rw [unhide HSU]; exact unhide B2, by rw [unhide HSU, ByteArray.size_append]; omega⟩
      case measure => simp [intOf]; omega
    · have e : l.take k = l := List.take_of_length_le (by omega)
      rw [e] at hbi
      clear hsize
      generalize filesS l (O ++ V) = R at *
      have B2 := hide hbi
      clear hbi e
      go_wp2
      go_ret
      exact ⟨_, rfl, by rw [unhide HBS]; exact (unhide B2).row, (unhide B2).fr⟩
end Go.Proofs.YtfmbebofllgmoaaDoor
namespace Go.Proofs.YtfmbebofllgmoaaDoor
open Go.RowKit
attribute [local go_sem ↓] Go.wp_at_zero Go.wp_at_succ

/-- A writer in memory: its struct at lb, its bytes in a row of its own. -/
structure LogAt (w : World) (lb B : Nat) (v : Value) (b : ByteArray) : Prop where
  cell : w.cell? ⟨lb, 0, none⟩ = some v
  free : w.frozen? ⟨lb, 0, none⟩ = false
  row : OwnB w B v b
  sep : ¬ own v lb
  lt : lb < w.heap.size
def lgS (lb : Nat) (v : Value) (k : Nat) : Prop := k = lb ∨ own v k

/-- In the midst of a record. -/
structure HI (w : World) (lb B : Nat) (v0 : Value) (vb : Value) (bd : ByteArray) (W : World) (v : Value) (b : ByteArray) : Prop where
  log : LogAt W lb B v b
  body : OwnB W w.heap.size vb bd
  sep : ∀ k, own v k → ¬ own vb k
  old : lb < w.heap.size
  fr : Fr (lgS lb v0) w W (lgS lb v)
  bb : B ≤ w.heap.size

theorem HI.next {w : World} {lb B : Nat} {v0 vb : Value} {bd : ByteArray} {W : World} {v : Value} {b : ByteArray} (h : HI w lb B v0 vb bd W v b) {W' : World} {v' : Value} {b' : ByteArray} (hr : OwnB W' B v' b') (hf : Fr (own v) W W' (own v')) :
    HI w lb B v0 vb bd (W'.setCell ⟨lb, 0, none⟩ v') v' b' := by
  have hn : ¬ own v' lb := fun e => h.log.sep (hf.old lb h.log.lt e)
  have hc : W'.cell? ⟨lb, 0, none⟩ = some v := (hf.cell lb 0 h.log.lt h.log.sep).trans h.log.cell
  have hz : (W'.setCell ⟨lb, 0, none⟩ v').heap.size = W'.heap.size := by simp [World.setCell]
  have hvb : ∀ q, own vb q → q < W.heap.size := fun q hq => (h.body.bump q hq).2
  refine ⟨⟨?_, ?_, ?_, hn, by rw [hz]; exact Nat.lt_of_lt_of_le h.log.lt hf.size⟩, ?_, ?_, h.old, ?_, h.bb⟩
  · exact World.cell?_setCell_same' _ _ _ (by rw [hc]; rfl)
  · rw [World.frozen?_setCell]; exact (hf.frozen lb 0 h.log.lt h.log.sep).trans h.log.free
  · exact hr.block fun q hq => Below.heap_setCell _ _ _ _ (by rintro rfl; exact hn hq)
  · refine h.body.block fun q hq => ?_
    have h1 := (h.body.bump q hq)
    have h2 := h.old
    exact (Below.heap_setCell _ _ _ _ (by show q ≠ lb; omega)).trans (hf.same q h1.2 (fun e => h.sep q e hq))
  · intro k hk hb
    exact h.sep k (hf.old k (hvb k hb) hk) hb
  · have h1 : Fr (lgS lb v) W W' (lgS lb v') := ⟨hf.os, hf.tape, hf.output, hf.size, fun k hk hn => hf.same k hk (fun e => hn (.inr e)), fun k hk e => e.elim .inl (fun e => .inr (hf.old k hk e))⟩
    exact (h.fr.trans h1).setCell _ _ (.inl (.inl rfl))

theorem OwnB.cells {w : World} {B g n cap : Nat} {b : ByteArray} (h : OwnB w B (.slice (some ⟨g, 0, none⟩) n cap) b) (h0 : 0 < b.size) : ∀ j u, (u8s b)[j]? = some u → w.cell? ((⟨g, 0, none⟩ : Addr).add j) = some u := by
  obtain ⟨g', cap', e, _, hc⟩ := h.bytes h0
  injection e with e _ _
  injection e with e
  injection e with e _ _
  subst e
  intro j u hj
  rw [addr_add]
  exact hc j u hj
theorem Fr.cell_own {v v' : Value} {w w' : World} (h : Fr (own v) w w' (own v')) {lb B : Nat} {b : ByteArray} (hl : LogAt w lb B v b) : w'.cell? ⟨lb, 0, none⟩ = some v ∧ w'.frozen? ⟨lb, 0, none⟩ = false :=
  ⟨(h.cell lb 0 hl.lt hl.sep).trans hl.cell, (h.frozen lb 0 hl.lt hl.sep).trans hl.free⟩

set_option maxHeartbeats 1000000 in
set_option maxRecDepth 20000 in
/-- An input is written down. -/
theorem wheard_any {w : World} {lb B : Nat} {v : Value} {b bd : ByteArray} (h : LogAt w lb B v b) (hB : B ≤ w.heap.size) (x0 x1 x2 : Value) (a : Option Addr) (l c : Nat) (z0 z1 z2 : Int) (e0 : x0 = .int .i64 z0) (e1 : x1 = .int .i64 z1) (e2 : x2 = .int .i64 z2)
    (hbd : bd.size ≤ 1000) (h0 : 0 < bd.size) (hb : b.size ≤ 800000000)
    (hbody : Calls Tryd.prog 38 #[.agg #[x0, x1, x2, .slice a l c]] (w.alloc (.cells #[x0, x1, x2, .slice a l c] 82)) fun e w' => ∃ v', e = .returned v' ∧ OwnB w' (w.heap.size + 1) v' bd ∧ Fr (fun _ => False) (w.alloc (.cells #[x0, x1, x2, .slice a l c] 82)) w' (fun _ => False)) :
    Calls Tryd.prog 20 #[.pointer (some ⟨lb, 0, none⟩), .agg #[x0, x1, x2, .slice a l c]] w fun e w' => ∃ v', e = .returned (.tuple #[]) ∧ LogAt w' lb B v' (b ++ frameS bd) ∧ Fr (lgS lb v) w w' (lgS lb v') := by
  subst e0 e1 e2
  have hvs := varS_small bd.size (by omega)
  have hstart : ∀ (w1 : World) (vb : Value), OwnB w1 (w.heap.size + 1) vb bd → Fr (fun _ => False) (w.alloc (.cells #[.int .i64 z0, .int .i64 z1, .int .i64 z2, .slice a l c] 82)) w1 (fun _ => False) → HI w lb B v vb bd w1 v b := by
    intro w1 vb ho hf
    have hf' : Fr (fun _ => False) w w1 (fun _ => False) := hf.unalloc
    have hlt := h.lt
    have hbmp := fun k hk => (h.row.bump k hk).2
    refine ⟨⟨(hf'.cell lb 0 hlt (fun h => h)).trans h.cell, (hf'.frozen lb 0 hlt (fun h => h)).trans h.free, h.row.block (fun q hq => hf'.same q (hbmp q hq) (fun h => h)), h.sep, Nat.lt_of_lt_of_le hlt hf'.size⟩, ?_, ?_, hlt, ?_, hB⟩
    · exact ho.low (by omega)
    · intro k hk hkb
      have h1 := hbmp k hk
      have h2 := (ho.bump k hkb).1
      omega
    · exact ⟨hf'.os, hf'.tape, hf'.output, hf'.size, fun k hk _ => hf'.same k hk (fun h => h), fun k hk e => e⟩
  have HB := hide (show b ++ frameS bd = b ++ varS bd.size ++ bd ++ sumS bd by unfold frameS; rw [← ByteArray.append_assoc, ← ByteArray.append_assoc])
  have Z1 := hide (show b.size + (varS bd.size).size ≤ 1000000000 by omega)
  have Z2 := hide (show (b ++ varS bd.size).size + bd.size ≤ 1000000000 by rw [ByteArray.size_append]; omega)
  have Z3 := hide (show (b ++ varS bd.size ++ bd).size ≤ 900000000 by rw [ByteArray.size_append, ByteArray.size_append]; omega)
  have HST := hide hstart
  have HBW := hide hB
  clear hstart h hvs hb
  go_enter Tryd.func20, Tryd.ntmps20
  go_wp2_with (first
    | (go_at_call 38; refine hbody.mono ?_; rintro e w1 ⟨vb, rfl, o1, f1⟩; obtain ⟨g, cap, rfl, _, _⟩ := o1.bytes h0; have hi := unhide HST _ _ o1 f1; have cl := hi.log.cell; have H1 := hide hi; clear o1 f1 hi)
    | (go_at_call 39; refine (appendVarint_any (unhide H1).log.row bd.size (by omega) (unhide Z1) (Nat.le_trans (unhide HBW) (unhide H1).fr.size)).mono ?_; rintro e w2 ⟨v2, rfl, o2, f2⟩; obtain ⟨a2, n2, c2, rfl⟩ := o2.shape; obtain ⟨k1, k2⟩ := f2.cell_own (unhide H1).log; have hi := (unhide H1).next o2 f2; have cl2 := hi.log.cell; have H2 := hide hi; clear o2 f2 hi)
    | (at_builtin; refine wpList_bytes (c := bd) rfl (.tmp 21) (.tmp 22) rfl rfl rfl (unhide H2).log.row ((unhide H2).body.cells h0) h0 (unhide Z2) (Nat.le_trans (unhide HBW) (unhide H2).fr.size) ?_; intro v3 w3 o3 f3; obtain ⟨a3, n3, c3, rfl⟩ := o3.shape; obtain ⟨k3, k4⟩ := f3.cell_own (unhide H2).log; have hi := (unhide H2).next o3 f3; have cl3 := hi.log.cell; have H3 := hide hi; clear o3 f3 hi)
    | (go_at_call 40; refine (appendSum_any (unhide H3).log.row ((unhide H3).body.at h0) (by omega) (unhide Z3) (Nat.le_trans (unhide HBW) (unhide H3).fr.size)).mono ?_; rintro e w4 ⟨v4, rfl, o4, f4⟩; obtain ⟨a4, n4, c4, rfl⟩ := o4.shape; obtain ⟨k5, k6⟩ := f4.cell_own (unhide H3).log; have hi := (unhide H3).next o4 f4; have H4 := hide hi; clear o4 f4 hi))
  refine ⟨rfl, .tuple #[], by simp [results, Tryd.results20, go_sem], ?_⟩
  exact ⟨_, rfl, by rw [unhide HB]; exact (unhide H4).log, (unhide H4).fr⟩
end Go.Proofs.YtfmbebofllgmoaaDoor
namespace Go.Proofs.YtfmbebofllgmoaaDoor
open Go.RowKit
attribute [local go_sem ↓] Go.wp_at_zero Go.wp_at_succ

theorem fold_push (l : List UInt8) : ∀ r : ByteArray, ((l.map fun x => (x.toNat : Int)).foldl (fun r n => r.push (UInt8.ofNat n.toNat)) r) = ⟨r.data ++ l.toArray⟩ := by
  induction l with
  | nil => intro r; apply ByteArray.ext; simp
  | cons x l ih =>
    intro r
    rw [List.map_cons, List.foldl_cons, ih]
    apply ByteArray.ext
    simp
theorem convB {w : World} {g off cap : Nat} {b : ByteArray} (h : ∀ j u, (u8s b)[j]? = some u → w.cell? ((⟨g, off, none⟩ : Addr).add j) = some u) : (convert 64 9 (.slice (some ⟨g, off, none⟩) b.size cap)).run Tryd.prog w = .ok (.string b) w := by
  rw [run_convert_bytes_string w 64 9 5 _ _ _ Tryd.underlying64 Tryd.underlying5 Tryd.underlying9]
  have h1 := run_loadCells_list (P := Tryd.prog) (w := w) ⟨g, off, none⟩ (u8s b) h
  have e : u8s b = (b.data.toList.map fun x => (x.toNat : Int)).map (Value.int .u8) := by simp [u8s]
  rw [u8s_length] at h1
  rw [run_bytesToString w ⟨g, off, none⟩ b.size cap (b.data.toList.map fun x => (x.toNat : Int)) (by rw [h1, e]), fold_push]
  have e2 : (⟨ByteArray.empty.data ++ b.data.toList.toArray⟩ : ByteArray) = b := by apply ByteArray.ext; simp
  rw [e2]

set_option maxHeartbeats 1000000 in
set_option maxRecDepth 20000 in
/-- The last record, and the log. -/
theorem wend_any {w : World} {lb B : Nat} {v : Value} {b : ByteArray} (h : LogAt w lb B v b) (hB : B ≤ w.heap.size) (n : Nat) (hn : n < 1000) (hb : b.size ≤ 800000000) :
    Calls Tryd.prog 12 #[.pointer (some ⟨lb, 0, none⟩), .int .i64 n] w fun e w' => ∃ v', e = .returned (.string (b ++ frameS (bodyS 5 0 n))) ∧ LogAt w' lb B v' (b ++ frameS (bodyS 5 0 n)) ∧ Fr (lgS lb v) w w' (lgS lb v') := by
  have hbs : bodyS 5 0 n = one 5 ++ varS n := by unfold bodyS; rw [if_neg (by omega)]
  have h1s : (one 5).size = 1 := by unfold one; simp
  have hvs := varS_small n (by omega)
  have hsz : (bodyS 5 0 n).size ≤ 1000 := by rw [hbs, ByteArray.size_append]; omega
  have hs0 : 0 < (bodyS 5 0 n).size := by rw [hbs, ByteArray.size_append]; omega
  have hc := wheard_any h hB (.int .i64 5) (.int .i64 0) (.int .i64 n) none 0 0 5 0 n rfl rfl rfl hsz hs0 hb (by
    have := pbody_one 5 0 n (.slice none 0 0) none 0 0 rfl (.inr rfl) (by omega) (w.alloc (.cells #[.int .i64 5, .int .i64 0, .int .i64 n, .slice none 0 0] 82))
    rw [show (w.alloc (.cells #[.int .i64 5, .int .i64 0, .int .i64 n, .slice none 0 0] 82)).heap.size = w.heap.size + 1 by simp] at this
    exact this)
  have hf0 : 0 < (b ++ frameS (bodyS 5 0 n)).size := by
    have := (varS_size (bodyS 5 0 n).size).1
    unfold frameS
    rw [ByteArray.size_append, ByteArray.size_append, ByteArray.size_append]
    omega
  generalize b ++ frameS (bodyS 5 0 n) = R at *
  clear hbs h1s hvs hsz hs0 hb h
  go_enter Tryd.func12, Tryd.ntmps12
  go_wp2_with (go_at_call 20; refine hc.mono ?_; rintro e w1 ⟨v1, rfl, l1, f1⟩; obtain ⟨g, cap, rfl, _, _⟩ := l1.row.bytes hf0; have cl := l1.cell; have hcv := convB (cap := cap) (l1.row.cells hf0); have L1 := hide l1; have F1 := hide f1; clear l1 f1)
  go_ret
  exact ⟨_, rfl, unhide L1, unhide F1⟩

/-- The head of a log. -/
def headS : ByteArray := ((ByteArray.empty.push 82).push 82).push 49
set_option maxRecDepth 20000 in
theorem newWriter_any (w : World) : Calls Tryd.prog 10 #[] w fun e w' => ∃ v, e = .returned (.pointer (some ⟨w.heap.size + 1, 0, none⟩)) ∧ LogAt w' (w.heap.size + 1) w.heap.size v headS ∧ Fr (fun _ => False) w w' (fun _ => False) ∧ (∀ k, own v k → k = w.heap.size) ∧ w'.heap.size = w.heap.size + 2 := by
  have hcv := Go.Lib.run_convert_bytes_const (P := Tryd.prog) w 64 5 #[.int .u8 82, .int .u8 82, .int .u8 49] 3 3 Tryd.underlying64 Tryd.underlying5
  go_enter Tryd.func10, Tryd.ntmps10
  go_wp2
  go_ret
  have z1 : (w.alloc (.cells #[.int .u8 82, .int .u8 82, .int .u8 49] 5 (3, 4))).heap.size = w.heap.size + 1 := by simp
  have hb := heap_alloc_new (w.alloc (.cells #[.int .u8 82, .int .u8 82, .int .u8 49] 5 (3, 4))) (.cells #[.slice (some ⟨w.heap.size, 0, none⟩) 3 3] 66)
  rw [z1] at hb
  have hg : ((w.alloc (.cells #[.int .u8 82, .int .u8 82, .int .u8 49] 5 (3, 4))).alloc (.cells #[.slice (some ⟨w.heap.size, 0, none⟩) 3 3] 66)).heap[w.heap.size]? = some (.cells #[.int .u8 82, .int .u8 82, .int .u8 49] 5 (3, 4)) := (Below.heap_alloc _ _ _ (by rw [z1]; omega)).trans (heap_alloc_new w _)
  refine ⟨.slice (some ⟨w.heap.size, 0, none⟩) 3 3, rfl, ⟨cell_of_row _ _ 0 _ 66 (0, 0) hb, frozen_rowE hb 0, ?_, ?_, by simp⟩, ((Fr.refl _ w).alloc _).alloc _, ?_, by simp⟩
  · refine .inr ⟨w.heap.size, rfl, Nat.le_refl _, by simp; omega, fun j u hj => ?_⟩
    rw [Nat.zero_add, cell_of_row _ _ j _ 5 (3, 4) hg]
    have e : u8s headS = [.int .u8 82, .int .u8 82, .int .u8 49] := by simp [u8s, headS]
    rw [e] at hj
    simpa using hj
  · simp [own, Value.ownBlock]
  · intro k hk
    simp only [own, Value.ownBlock, Option.some.injEq] at hk
    exact hk.symm
end Go.Proofs.YtfmbebofllgmoaaDoor
