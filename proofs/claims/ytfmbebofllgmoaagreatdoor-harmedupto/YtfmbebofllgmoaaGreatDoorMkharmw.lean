/-
  PROVED HERE: rerunkeep.Harmed answers true of everything in memory.
-/
import Derived.Test.YtfmbebofllgmoaaGreatDoorMkept
namespace Go.Proofs.YtfmbebofllgmoaaGreatDoor
open Go.RowKit
attribute [local go_sem ↓] Go.wp_at_zero Go.wp_at_succ

theorem flip_dec : ∀ x : Fin 256, ∀ k : Fin 8, 0 ≤ bits BinOp.xor .u8 ((x.val : Nat) : Int) (IntKind.u8.wrap (2 ^ k.val)) ∧ (bits BinOp.xor .u8 ((x.val : Nat) : Int) (IntKind.u8.wrap (2 ^ k.val))).toNat < 256 ∧ (bits BinOp.xor .u8 ((x.val : Nat) : Int) (IntKind.u8.wrap (2 ^ k.val))).toNat ≠ x.val := by decide +kernel
set_option maxHeartbeats 4000000 in
set_option maxRecDepth 20000 in
theorem harmed_any {w : World} (htab : TabIn w) {v q0 q1 q2 q3 : Value} {N : Nat} {ln : Nat → Nat} {f : Nat → Nat → O3} (hH : HandsIn w v N ln f) (hin : ∀ i j, i < N → j < ln i → In3 (f i j)) {raw lp ll : List Int} {rb : List Br} {P : Nat → Prop} (hP : ∀ q, P q → q < w.heap.size) (h0 : IntsIn w q0 raw P) (h1 : ValsIn w q1 (rb.map (·.1)) P) (hrb : ∀ b, b ∈ rb → IntsIn w b.1 b.2 P) (h2 : IntsIn w q2 lp P) (h3 : IntsIn w q3 ll P) (hr0 : rng raw) (hr1 : ∀ b, b ∈ rb → rng b.2) (n23 : lp.length + ll.length ≤ 1900000) (fuel : Int) (hfu : inR fuel) (whr : Int) (hwh : inR whr) (bit : Int) (hbi : inR bit) :
    Calls Tryz.prog 9 #[v, .agg #[q0, q1, q2, q3], .int .i64 fuel, .int .i64 whr, .int .i64 bit] w fun e w' => e = .returned (.bool true) ∧ Fr (fun _ => False) w w' (fun _ => False) := by
  obtain ⟨ha, hl, hc, rfl⟩ : ∃ a n c, v = .slice a n c := by obtain ⟨a, c, hv, _⟩ := hH; exact ⟨a, _, c, hv⟩
  have hfa : Fr (fun _ => False) w (w.alloc (.cells #[q0, q1, q2, q3] 29)) (fun _ => False) := (Fr.refl _ _).alloc _
  have hba := hfa.below (B := w.heap.size) (fun k hk => hk.elim) (Nat.le_refl _)
  have H13 := hide (works_any (w.alloc (.cells #[q0, q1, q2, q3] 29)) (tabIn_below hba (tabIn_lt htab) htab))
  have h14 : ∀ W : World, Fr (fun _ => False) w W (fun _ => False) → _ := fun W hf => kept_any htab hH hin hP h0 h1 hrb h2 h3 hr0 hr1 n23 fuel hfu hf
  have H14 := hide h14
  have HFA := hide hfa
  have HTAB := hide htab
  have hb29 := heap_alloc_new w (.cells #[q0, q1, q2, q3] 29)
  have HB29 := hide hb29
  have hzz : w.heap.size < (w.alloc (.cells #[q0, q1, q2, q3] 29)).heap.size := by simp
  have HZZ := hide hzz
  have e35 := eq35
  clear h14 hfa htab hH hb29 hba hzz h0 h1 hrb h2 h3 hr0 hr1 hin
  go_enter Tryz.func9, Tryz.ntmps9
  go_wp2_with fail
  go_at_call 13
  refine (unhide H13).mono ?_
  rintro e w1 ⟨rfl, f1⟩
  have hf1 := (unhide HFA).trans f1
  have hc29 := fun j => cell_of_row w1 w.heap.size j _ 29 (0, 0) ((f1.same w.heap.size (unhide HZZ) (fun h => h)).trans (unhide HB29))
  have HF1 := hide hf1
  clear hf1 f1
  go_wp2_with fail
  go_at_call 14
  refine (unhide H14 _ (unhide HF1)).mono ?_
  rintro e w2 ⟨s1a, n1, s1c, s2a, n2, s2c, s3a, n3, s3c, ta, tc, p, fu, lg, s, xs, rfl, hk⟩
  have HK := hide hk
  have hz2 : w2.heap.size < (w2.alloc (.cells #[.slice s1a n1 s1c, .slice s2a n2 s2c, .slice s3a n3 s3c, .int .i64 fu, .string lg, .slice ta s.trace.length tc, .int .i64 s.fin, .int .i64 (s.reg 0), .int .i64 (s.reg 1), .int .i64 (s.reg 2), .int .i64 (s.reg 3), .int .i64 s.clock, .int .i64 s.heard, .bool true] 39)).heap.size := by simp
  have hr39 := heap_alloc_new w2 (.cells #[.slice s1a n1 s1c, .slice s2a n2 s2c, .slice s3a n3 s3c, .int .i64 fu, .string lg, .slice ta s.trace.length tc, .int .i64 s.fin, .int .i64 (s.reg 0), .int .i64 (s.reg 1), .int .i64 (s.reg 2), .int .i64 (s.reg 3), .int .i64 s.clock, .int .i64 s.heard, .bool true] 39)
  have hf3 : Fr (fun _ => False) w2 (w2.alloc (.cells #[.slice s1a n1 s1c, .slice s2a n2 s2c, .slice s3a n3 s3c, .int .i64 fu, .string lg, .slice ta s.trace.length tc, .int .i64 s.fin, .int .i64 (s.reg 0), .int .i64 (s.reg 1), .int .i64 (s.reg 2), .int .i64 (s.reg 3), .int .i64 s.clock, .int .i64 s.heard, .bool true] 39)) (fun _ => False) := (Fr.refl _ _).alloc _
  have hkeep : ∀ W : World, Fr (fun _ => False) (w2.alloc (.cells #[.slice s1a n1 s1c, .slice s2a n2 s2c, .slice s3a n3 s3c, .int .i64 fu, .string lg, .slice ta s.trace.length tc, .int .i64 s.fin, .int .i64 (s.reg 0), .int .i64 (s.reg 1), .int .i64 (s.reg 2), .int .i64 (s.reg 3), .int .i64 s.clock, .int .i64 s.heard, .bool true] 39)) W (fun _ => False) → W.heap[w2.heap.size]? = some (.cells #[.slice s1a n1 s1c, .slice s2a n2 s2c, .slice s3a n3 s3c, .int .i64 fu, .string lg, .slice ta s.trace.length tc, .int .i64 s.fin, .int .i64 (s.reg 0), .int .i64 (s.reg 1), .int .i64 (s.reg 2), .int .i64 (s.reg 3), .int .i64 s.clock, .int .i64 s.heard, .bool true] 39) := fun W hf => (hf.same _ hz2 (fun h => h)).trans hr39
  have HKEEP := hide hkeep
  have HF3 := hide hf3
  clear hr39 hkeep hf3 hc29 H13 H14 HB29 HZZ HFA
  obtain ⟨n, hn, hnl⟩ : ∃ n : Nat, pickI whr (lg.size : Int) = n ∧ n < lg.size := by
    have := pickI_range whr (lg.size : Int) (by have := hk.pos; omega)
    exact ⟨(pickI whr (lg.size : Int)).toNat, by omega, by omega⟩
  have h18 : ∀ W : World, Calls Tryz.prog 18 #[.int .i64 whr, .int .i64 (lg.size : Int)] W fun e w' => e = .returned (.int .i64 (n : Int)) ∧ w' = W := fun W => by
    have := kpick_big whr (lg.size : Int) (by have := hk.pos; omega) (by have := hk.size; omega) hwh W
    rw [hn] at this
    exact this
  obtain ⟨k, hkk, hk8⟩ : ∃ k : Nat, pickI bit 8 = k ∧ k < 8 := by
    have := pickI_range bit 8 (by omega)
    exact ⟨(pickI bit 8).toNat, by omega, by omega⟩
  have h18b : ∀ W : World, Calls Tryz.prog 18 #[.int .i64 bit, .int .i64 8] W fun e w' => e = .returned (.int .i64 (k : Int)) ∧ w' = W := fun W => by
    have := kpick_big bit 8 (by omega) (by omega) hbi W
    rw [hkk] at this
    exact this
  have h16 : ∀ W : World, Calls Tryz.prog 16 #[.string lg] W fun e w' => ∃ a c, ∃ ps : List (Inp × Value), e = .returned (.tuple #[.slice a ps.length c, .int .i64 lg.size, .int .i64 1]) ∧ InsAt w' W.heap.size (.slice a ps.length c) ps ∧ ps.map (·.1) = alls xs s.fin.toNat ∧ Fr (fun _ => False) W w' (fun _ => False) := fun W => by
    have hk := unhide HK
    refine (read_ps lg hk.size W).mono ?_
    rintro e w' ⟨a, c, ps, rfl, hi, hp, hf⟩
    rw [hk.rd] at hp ⊢
    exact ⟨a, c, ps, rfl, hi, hp, hf⟩
  have H16 := hide h16
  have H18 := hide h18
  have H18B := hide h18b
  have hp4 : ¬ (lg.size : Int) < 4 := by have := hk.pos; omega
  have hn0 : (0 : Int) ≤ (n : Int) := by omega
  have hnl' : (n : Int) < (lg.size : Int) := by omega
  clear h16 h18 h18b hk hn hkk hwh hbi
  go_wp2_with fail
  go_at_call 16
  refine (unhide H16 _).mono ?_
  rintro e w4 ⟨aa, ac, psA, rfl, insA, hpsA, f4⟩
  have c4 := fun j => cell_of_row w4 _ j _ 39 (0, 0) (unhide HKEEP _ f4)
  have INSA := hide insA
  have HPSA := hide hpsA
  have F4 := hide f4
  clear insA hpsA f4 H16
  go_wp2_with fail
  go_at_call 18
  refine (unhide H18 _).mono ?_
  rintro e w5 ⟨rfl, hw5⟩
  rw [hw5]
  clear H18 hw5 w5
  go_wp2_with fail
  obtain ⟨A, hA⟩ : ∃ A, lg.extract 0 n = A := ⟨_, rfl⟩
  obtain ⟨C, hC⟩ : ∃ C, lg.extract (n + 1) lg.size = C := ⟨_, rfl⟩
  obtain ⟨z, hz⟩ : ∃ z : Int, bits BinOp.xor IntKind.u8 (lg[n].toNat : Int) (IntKind.u8.wrap (2 ^ k)) = z := ⟨_, rfl⟩
  obtain ⟨hz0, hz1, hz2⟩ : 0 ≤ z ∧ z.toNat < 256 ∧ z.toNat ≠ lg[n].toNat := by
    have := flip_dec ⟨lg[n].toNat, UInt8.toNat_lt _⟩ ⟨k, hk8⟩
    rw [← hz]; exact this
  have hcv : ∀ W : World, ∀ g, W.cell? ⟨g, 0, none⟩ = some (.int .u8 z) → (convert 54 9 (.slice (some ⟨g, 0, none⟩) 1 1)).run Tryz.prog W = .ok (.string (ByteArray.empty.push (UInt8.ofNat z.toNat))) W := fun W g h => conv1 W g z h
  obtain ⟨B, hB⟩ : ∃ B, ByteArray.empty.push (UInt8.ofNat z.toNat) = B := ⟨_, rfl⟩
  rw [hB] at hcv
  have hbA : bs A = (bs lg).take n := by rw [← hA, bs_sub]; simp
  have hlg : (bs lg).length = lg.size := by simp [bs]
  have hbC : bs C = (bs lg).drop (n + 1) := by rw [← hC, bs_sub, List.take_of_length_le (by omega)]
  have hbB : bs B = [z.toNat] := by
    rw [← hB, bs_push, bs_empty, List.nil_append, UInt8.toNat_ofNat', Nat.mod_eq_of_lt hz1]
  obtain ⟨t, ht⟩ : ∃ t, (A ++ B) ++ C = t := ⟨_, rfl⟩
  have hbt : bs t = (bs lg).set n z.toNat := by
    rw [← ht, bs_append, bs_append, hbA, hbB, hbC, List.set_eq_take_append_cons_drop, if_pos (by omega)]
    simp
  have hlen : ∀ x : ByteArray, x.size = (bs x).length := fun x => by simp [bs]
  have htz : t.size ≤ 1000000000 := by
    rw [hlen, hbt, List.length_set, hlg]; exact (unhide HK).size
  have hzA : ¬ 9223372036854775807 < A.size + B.size := by
    rw [hlen A, hlen B, hbA, hbB, List.length_take, hlg]; have := (unhide HK).size; simp; omega
  have hzB : ¬ 9223372036854775807 < (A ++ B).size + C.size := by
    have e1 := hlen (A ++ B ++ C)
    have e2 : (A ++ B ++ C).size = (A ++ B).size + C.size := by simp
    rw [← e2, ht]; omega
  have hzB' : ¬ 9223372036854775807 < A.size + B.size + C.size := by
    have e2 : (A ++ B).size = A.size + B.size := by simp
    rw [← e2]; exact hzB
  have hhm := (unhide HK).harm n z.toNat hnl hz1 (by rw [List.getD_eq_getElem?_getD]; intro e; apply hz2; rw [e]; simp [bs, hnl]; rfl) t hbt
  have HBT := hide hbt
  have hwn : IntKind.i64.wrap ((n : Int) + 1) = (n : Int) + 1 := by rw [IntKind.wrap_i64]; have := (unhide HK).size; omega
  have hn1 : (0 : Int) ≤ (n : Int) + 1 := by omega
  have hn2 : (n : Int) + 1 ≤ (lg.size : Int) := by omega
  have hn3 : ((n : Int) + 1).toNat = n + 1 := by omega
  have hn4 : (n : Int) ≤ (lg.size : Int) := by omega
  have hlt4 : w2.heap.size < w4.heap.size := World.block_lt_of_cell? w4 ⟨w2.heap.size, 0, none⟩ (c4 0)
  have q4 : ∀ o, (w4.alloc o).drew.cell? ⟨w2.heap.size, 4, none⟩ = some (.string lg) := fun o => cell_of_row _ _ 4 _ 39 (0, 0) (show (w4.alloc o).drew.heap[w2.heap.size]? = some (.cells #[.slice s1a n1 s1c, .slice s2a n2 s2c, .slice s3a n3 s3c, .int .i64 fu, .string lg, .slice ta s.trace.length tc, .int .i64 s.fin, .int .i64 (s.reg 0), .int .i64 (s.reg 1), .int .i64 (s.reg 2), .int .i64 (s.reg 3), .int .i64 s.clock, .int .i64 s.heard, .bool true] 39) from (Below.heap_alloc w4 o _ hlt4).trans (unhide HKEEP _ (unhide F4)))
  have HHM := hide hhm
  have HTZ := hide htz
  have HHT := hide ht
  clear hhm htz hbt hlen hbA hbB hbC hlg hB ht hz0 hz1 hz2
  go_cut [17] (fun u wc => u = .string t ∧ Fr (fun _ => False) w4 wc (fun _ => False))
  case first =>
    refine wp_region_held_drew (S := fun w' => w'.cell? ⟨w2.heap.size, 4, none⟩ = some (.string lg)) (by kernel_rfl) ?_ (fun hHeld => ?_)
    · simp [go_sem, c4]
    refine wpAnyH_take (i := 0) (oi := { dst := some 59, op := Op.fieldAddr 39 (Operand.tmp 12) 2, type := 0, pos := "keep.go:224", after := #[], guard := none }) (v := ?_) rfl (by kernel_rfl) (by kernel_rfl) (by kernel_rfl) (fun _ _ _ h => h) (Or.inl ⟨by rfl, ?_⟩) (by assumption) ?_
    rotate_left
    · intro w hSw; (try dsimp only at hSw); go_simp; try with_reducible rfl
    simp only [Act.put, List.setIfInBounds_toArray, List.set_cons_zero, List.set_cons_succ]
    refine wpAnyH_take (i := 1) (oi := { dst := some 60, op := Op.load 9 (Operand.tmp 59), type := 9, pos := "keep.go:224", after := #[{ on := 0, ground := Ground.data }], guard := none }) (v := ?_) rfl (by kernel_rfl) (by kernel_rfl) (by kernel_rfl) (fun _ _ _ h => h) (Or.inl ⟨by rfl, ?_⟩) (by assumption) ?_
    rotate_left
    · intro w hSw; (try dsimp only at hSw); go_simp; try with_reducible rfl
    simp only [Act.put, List.setIfInBounds_toArray, List.set_cons_zero, List.set_cons_succ]
    refine wpAnyH_take (i := 2) (oi := { dst := some 61, op := Op.move (Operand.tmp 16), type := 3, pos := "keep.go:224", after := #[], guard := none }) (v := ?_) rfl (by kernel_rfl) (by kernel_rfl) (by kernel_rfl) (fun _ _ _ h => h) (Or.inl ⟨by rfl, ?_⟩) (by assumption) ?_
    rotate_left
    · intro w hSw; (try dsimp only at hSw); go_simp; try with_reducible rfl
    simp only [Act.put, List.setIfInBounds_toArray, List.set_cons_zero, List.set_cons_succ]
    refine wpAnyH_take (i := 3) (oi := { dst := some 62, op := Op.slice 9 (Operand.tmp 60) none (some (Operand.tmp 61)) none, type := 9, pos := "keep.go:224", after := #[{ on := 1, ground := Ground.data }, { on := 2, ground := Ground.data }], guard := none }) (v := ?_) rfl (by kernel_rfl) (by kernel_rfl) (by kernel_rfl) (fun _ _ _ h => h) (Or.inl ⟨by rfl, ?_⟩) (by assumption) ?_
    rotate_left
    · intro w hSw; (try dsimp only at hSw); go_simp; try with_reducible rfl
    simp only [Act.put, List.setIfInBounds_toArray, List.set_cons_zero, List.set_cons_succ]
    refine wpAnyH_take (i := 4) (oi := { dst := some 63, op := Op.fieldAddr 39 (Operand.tmp 12) 2, type := 0, pos := "keep.go:224", after := #[], guard := none }) (v := ?_) rfl (by kernel_rfl) (by kernel_rfl) (by kernel_rfl) (fun _ _ _ h => h) (Or.inl ⟨by rfl, ?_⟩) (by assumption) ?_
    rotate_left
    · intro w hSw; (try dsimp only at hSw); go_simp; try with_reducible rfl
    simp only [Act.put, List.setIfInBounds_toArray, List.set_cons_zero, List.set_cons_succ]
    refine wpAnyH_take (i := 5) (oi := { dst := some 64, op := Op.load 9 (Operand.tmp 63), type := 9, pos := "keep.go:224", after := #[{ on := 4, ground := Ground.data }], guard := none }) (v := ?_) rfl (by kernel_rfl) (by kernel_rfl) (by kernel_rfl) (fun _ _ _ h => h) (Or.inl ⟨by rfl, ?_⟩) (by assumption) ?_
    rotate_left
    · intro w hSw; (try dsimp only at hSw); go_simp; try with_reducible rfl
    simp only [Act.put, List.setIfInBounds_toArray, List.set_cons_zero, List.set_cons_succ]
    refine wpAnyH_take (i := 6) (oi := { dst := some 65, op := Op.move (Operand.tmp 16), type := 3, pos := "keep.go:224", after := #[], guard := none }) (v := ?_) rfl (by kernel_rfl) (by kernel_rfl) (by kernel_rfl) (fun _ _ _ h => h) (Or.inl ⟨by rfl, ?_⟩) (by assumption) ?_
    rotate_left
    · intro w hSw; (try dsimp only at hSw); go_simp; try with_reducible rfl
    simp only [Act.put, List.setIfInBounds_toArray, List.set_cons_zero, List.set_cons_succ]
    refine wpAnyH_take (i := 7) (oi := { dst := some 66, op := Op.index 9 (Operand.tmp 64) (Operand.tmp 65), type := 5, pos := "keep.go:224", after := #[{ on := 5, ground := Ground.data }, { on := 6, ground := Ground.data }], guard := none }) (v := ?_) rfl (by kernel_rfl) (by kernel_rfl) (by kernel_rfl) (fun _ _ _ h => h) (Or.inl ⟨by rfl, ?_⟩) (by assumption) ?_
    rotate_left
    · intro w hSw; (try dsimp only at hSw); go_simp; try with_reducible rfl
    simp only [Act.put, List.setIfInBounds_toArray, List.set_cons_zero, List.set_cons_succ]
    refine wpAnyH_take (i := 8) (oi := { dst := some 67, op := Op.move (Operand.tmp 4), type := 3, pos := "keep.go:224", after := #[], guard := none }) (v := ?_) rfl (by kernel_rfl) (by kernel_rfl) (by kernel_rfl) (fun _ _ _ h => h) (Or.inl ⟨by rfl, ?_⟩) (by assumption) ?_
    rotate_left
    · intro w hSw; (try dsimp only at hSw); go_simp; try with_reducible rfl
    simp only [Act.put, List.setIfInBounds_toArray, List.set_cons_zero, List.set_cons_succ]
    refine wpAnyH_take (i := 15) (oi := { dst := some 74, op := Op.fieldAddr 39 (Operand.tmp 12) 2, type := 0, pos := "keep.go:224", after := #[], guard := none }) (v := ?_) rfl (by kernel_rfl) (by kernel_rfl) (by kernel_rfl) (fun _ _ _ h => h) (Or.inl ⟨by rfl, ?_⟩) (by assumption) ?_
    rotate_left
    · intro w hSw; (try dsimp only at hSw); go_simp; try with_reducible rfl
    simp only [Act.put, List.setIfInBounds_toArray, List.set_cons_zero, List.set_cons_succ]
    refine wpAnyH_take (i := 16) (oi := { dst := some 75, op := Op.load 9 (Operand.tmp 74), type := 9, pos := "keep.go:224", after := #[{ on := 15, ground := Ground.data }], guard := none }) (v := ?_) rfl (by kernel_rfl) (by kernel_rfl) (by kernel_rfl) (fun _ _ _ h => h) (Or.inl ⟨by rfl, ?_⟩) (by assumption) ?_
    rotate_left
    · intro w hSw; (try dsimp only at hSw); go_simp; try with_reducible rfl
    simp only [Act.put, List.setIfInBounds_toArray, List.set_cons_zero, List.set_cons_succ]
    refine wpAnyH_take (i := 17) (oi := { dst := some 76, op := Op.move (Operand.tmp 16), type := 3, pos := "keep.go:224", after := #[], guard := none }) (v := ?_) rfl (by kernel_rfl) (by kernel_rfl) (by kernel_rfl) (fun _ _ _ h => h) (Or.inl ⟨by rfl, ?_⟩) (by assumption) ?_
    rotate_left
    · intro w hSw; (try dsimp only at hSw); go_simp; try with_reducible rfl
    simp only [Act.put, List.setIfInBounds_toArray, List.set_cons_zero, List.set_cons_succ]
    refine wpAnyH_take (i := 18) (oi := { dst := some 77, op := Op.binOp BinOp.add 3 (Operand.tmp 76) (Operand.const (Value.int IntKind.i64 1)) 3, type := 3, pos := "keep.go:224", after := #[{ on := 17, ground := Ground.data }], guard := none }) (v := ?_) rfl (by kernel_rfl) (by kernel_rfl) (by kernel_rfl) (fun _ _ _ h => h) (Or.inl ⟨by rfl, ?_⟩) (by assumption) ?_
    rotate_left
    · intro w hSw; (try dsimp only at hSw); go_simp; try with_reducible rfl
    simp only [Act.put, List.setIfInBounds_toArray, List.set_cons_zero, List.set_cons_succ]
    refine wpAnyH_take (i := 19) (oi := { dst := some 78, op := Op.slice 9 (Operand.tmp 75) (some (Operand.tmp 77)) none none, type := 9, pos := "keep.go:224", after := #[{ on := 16, ground := Ground.data }, { on := 18, ground := Ground.data }], guard := none }) (v := ?_) rfl (by kernel_rfl) (by kernel_rfl) (by kernel_rfl) (fun _ _ _ h => h) (Or.inl ⟨by rfl, ?_⟩) (by assumption) ?_
    rotate_left
    · intro w hSw; (try dsimp only at hSw); go_simp; try with_reducible rfl
    simp only [Act.put, List.setIfInBounds_toArray, List.set_cons_zero, List.set_cons_succ]
    refine wpAnyH_ready (rs := [9]) (by kernel_rfl) (by simp) ?_
    refine AllReadyH.cons (o := { dst := some 68, op := Op.call { callee := Callee.value (Operand.func 18), args := #[Operand.tmp 67, Operand.const (Value.int IntKind.i64 8)], argTypes := #[3, 3] }, type := 3, pos := "keep.go:224", after := #[{ on := 8, ground := Ground.data }], guard := none }) rfl (fun K' hK' => ?_) AllReadyH.nil
    go_simp
    go_at_call 18
    refine (unhide H18B _).mono ?_
    rintro _ w' ⟨rfl, hw'⟩
    rw [hw']
    clear hw' w'
    refine hK'.out _ _ ?_ (fun hHeld => ?_)
    · simp [go_sem, c4]
    clear hK' K'
    try simp only [Act.put, List.setIfInBounds_toArray, List.set_cons_zero, List.set_cons_succ]
    refine wpAnyH_take (i := 10) (oi := { dst := some 69, op := Op.binOp BinOp.shl 5 (Operand.const (Value.int IntKind.u8 1)) (Operand.tmp 68) 3, type := 5, pos := "keep.go:224", after := #[{ on := 9, ground := Ground.data }], guard := none }) (v := ?_) rfl (by kernel_rfl) (by kernel_rfl) (by kernel_rfl) (fun _ _ _ h => h) (Or.inl ⟨by rfl, ?_⟩) (by assumption) ?_
    rotate_left
    · intro w hSw; (try dsimp only at hSw); go_simp; try with_reducible rfl
    simp only [Act.put, List.setIfInBounds_toArray, List.set_cons_zero, List.set_cons_succ]
    refine wpAnyH_take (i := 11) (oi := { dst := some 70, op := Op.binOp BinOp.xor 5 (Operand.tmp 66) (Operand.tmp 69) 5, type := 5, pos := "keep.go:224", after := #[{ on := 7, ground := Ground.data }, { on := 10, ground := Ground.data }], guard := none }) (v := ?_) rfl (by kernel_rfl) (by kernel_rfl) (by kernel_rfl) (fun _ _ _ h => h) (Or.inl ⟨by rfl, ?_⟩) (by assumption) ?_
    rotate_left
    · intro w hSw; (try dsimp only at hSw); go_simp; try with_reducible rfl
    simp only [Act.put, List.setIfInBounds_toArray, List.set_cons_zero, List.set_cons_succ]
    refine wpAnyH_ready (rs := [12]) (by kernel_rfl) (by simp) ?_
    refine AllReadyH.cons (o := { dst := some 71, op := Op.buildSlice 54 1 #[(0, Operand.tmp 70)], type := 54, pos := "keep.go:224", after := #[{ on := 11, ground := Ground.data }], guard := none }) rfl (fun K' hK' => ?_) AllReadyH.nil
    go_simp
    refine hK'.out _ _ ?_ (fun hHeld => ?_)
    · exact q4 _
    clear hK' K'
    try simp only [Act.put, List.setIfInBounds_toArray, List.set_cons_zero, List.set_cons_succ]
    refine wpAnyH_ready (rs := [13]) (by kernel_rfl) (by simp) ?_
    refine AllReadyH.cons (o := { dst := some 72, op := Op.convert 54 9 (Operand.tmp 71), type := 9, pos := "keep.go:224", after := #[{ on := 12, ground := Ground.data }], guard := none }) rfl (fun K' hK' => ?_) AllReadyH.nil
    go_simp
    refine hK'.out _ _ ?_ (fun hHeld => ?_)
    · exact q4 _
    clear hK' K'
    try simp only [Act.put, List.setIfInBounds_toArray, List.set_cons_zero, List.set_cons_succ]
    refine wpAnyH_take (i := 14) (oi := { dst := some 73, op := Op.binOp BinOp.add 9 (Operand.tmp 62) (Operand.tmp 72) 9, type := 9, pos := "keep.go:224", after := #[{ on := 3, ground := Ground.data }, { on := 13, ground := Ground.data }], guard := none }) (v := ?_) rfl (by kernel_rfl) (by kernel_rfl) (by kernel_rfl) (fun _ _ _ h => h) (Or.inl ⟨by rfl, ?_⟩) (by assumption) ?_
    rotate_left
    · intro w hSw; (try dsimp only at hSw); go_simp; try with_reducible rfl
    simp only [Act.put, List.setIfInBounds_toArray, List.set_cons_zero, List.set_cons_succ]
    refine wpAnyH_take (i := 20) (oi := { dst := some 79, op := Op.binOp BinOp.add 9 (Operand.tmp 73) (Operand.tmp 78) 9, type := 9, pos := "keep.go:224", after := #[{ on := 14, ground := Ground.data }, { on := 19, ground := Ground.data }], guard := none }) (v := ?_) rfl (by kernel_rfl) (by kernel_rfl) (by kernel_rfl) (fun _ _ _ h => h) (Or.inl ⟨by rfl, ?_⟩) (by assumption) ?_
    rotate_left
    · intro w hSw; (try dsimp only at hSw); go_simp; try with_reducible rfl
    simp only [Act.put, List.setIfInBounds_toArray, List.set_cons_zero, List.set_cons_succ]
    refine wpAnyH_take (i := 21) (oi := { dst := some 17, op := Op.assign (Operand.tmp 79), type := 9, pos := "keep.go:224", after := #[{ on := 20, ground := Ground.data }, { on := 9, ground := Ground.chain }, { on := 0, ground := Ground.phase }, { on := 1, ground := Ground.phase }, { on := 2, ground := Ground.phase }, { on := 3, ground := Ground.phase }, { on := 4, ground := Ground.phase }, { on := 5, ground := Ground.phase }, { on := 6, ground := Ground.phase }, { on := 7, ground := Ground.phase }, { on := 8, ground := Ground.phase }, { on := 9, ground := Ground.phase }, { on := 10, ground := Ground.phase }, { on := 11, ground := Ground.phase }, { on := 12, ground := Ground.phase }, { on := 13, ground := Ground.phase }, { on := 14, ground := Ground.phase }, { on := 15, ground := Ground.phase }, { on := 16, ground := Ground.phase }, { on := 17, ground := Ground.phase }, { on := 18, ground := Ground.phase }, { on := 19, ground := Ground.phase }, { on := 20, ground := Ground.phase }], guard := none }) (v := ?_) rfl (by kernel_rfl) (by kernel_rfl) (by kernel_rfl) (fun _ _ _ h => h) (Or.inl ⟨by rfl, ?_⟩) (by assumption) ?_
    rotate_left
    · intro w hSw; (try dsimp only at hSw); go_simp; try with_reducible rfl
    simp only [Act.put, List.setIfInBounds_toArray, List.set_cons_zero, List.set_cons_succ]
    refine wpAnyH_done (by kernel_rfl) ?_ _
    go_wp2_with fail
    go_meet
    exact ⟨by rw [unhide HHT], ((Fr.refl _ _).alloc _).drew⟩
  case rest =>
  obtain ⟨rfl, hwc⟩ := hcut
  have f4 := (unhide F4).trans hwc
  have insA := (unhide INSA).fr hwc
  have hcut := unhide HHM
  have htz := unhide HTZ
  clear hA hC hz hcv hzA hzB hzB' HBT hwn hn1 hn2 hn3 q4 hlt4 c4 F4 INSA H18B HHM HTZ HHT hwc
  have c4 := fun j => cell_of_row wc _ j _ 39 (0, 0) (unhide HKEEP _ f4)
  have INSA := hide insA
  have F4 := hide f4
  clear insA f4
  by_cases h3 : n < 3
  · have hr := hcut.1 h3
    have h3' : (n : Int) < 3 := by omega
    have h16 : ∀ W : World, Calls Tryz.prog 16 #[.string t] W fun e w' => ∃ a c, e = .returned (.tuple #[.slice a 0 c, .int .i64 0, .int .i64 4]) ∧ Fr (fun _ => False) W w' (fun _ => False) := fun W => by
      refine (read_ps t htz W).mono ?_
      rintro e w' ⟨a, c, ps, rfl, hi, hp, hf⟩
      rw [hr] at hp ⊢
      have hp' : ps = [] := List.map_eq_nil_iff.1 hp
      subst hp'
      exact ⟨a, c, rfl, hf⟩
    have h15 : ∀ W : World, Fr (fun _ => False) (w2.alloc (.cells #[.slice s1a n1 s1c, .slice s2a n2 s2c, .slice s3a n3 s3c, .int .i64 fu, .string lg, .slice ta s.trace.length tc, .int .i64 s.fin, .int .i64 (s.reg 0), .int .i64 (s.reg 1), .int .i64 (s.reg 2), .int .i64 (s.reg 3), .int .i64 s.clock, .int .i64 s.heard, .bool true] 39)) W (fun _ => False) → Calls Tryz.prog 15 #[.agg #[.slice s1a n1 s1c, .slice s2a n2 s2c, .slice s3a n3 s3c], .string t, .int .i64 fu] W fun e w' => e = .returned (.tuple #[.slice none 0 0, .agg #[.int .i64 0, .int .i64 0, .int .i64 0, .int .i64 0, .int .i64 0, .int .i64 0, .int .i64 0], .int .i64 5]) ∧ Fr (fun _ => False) W w' (fun _ => False) := fun W hf => by
      have hk := unhide HK
      refine (hk.replay (unhide HTAB) ((unhide HF3).trans hf) t htz (by rw [hr]; exact Nat.zero_le _)).mono ?_
      rintro e w' ⟨hf, ⟨_, h1⟩ | ⟨h0, _⟩⟩
      · exact ⟨h1, hf⟩
      · rw [hr] at h0; exact absurd rfl h0
    have H16 := hide h16
    have H15 := hide h15
    clear h16 h15 hcut hr
    go_wp2_with fail
    go_at_call 16
    refine (unhide H16 _).mono ?_
    rintro e w5 ⟨ba, bc, rfl, f5⟩
    have f45 := (unhide F4).trans f5
    have c5 := fun j => cell_of_row w5 _ j _ 39 (0, 0) (unhide HKEEP _ f45)
    have F45 := hide f45
    clear f5 f45 H16 c4
    go_wp2_with fail
    go_at_call 15
    refine (unhide H15 _ (unhide F45)).mono ?_
    rintro e w7 ⟨rfl, f7⟩
    have f47 := (unhide F45).trans f7
    have F47 := hide f47
    clear f7 f47 F45 H15 c5
    go_wp2
    go_ret
    refine ⟨rfl, ?_⟩
    have e1 := (unhide HK).fr.trans ((unhide HF3).trans (unhide F47))
    exact e1.alloc _
  have h3' : ¬ (n : Int) < 3 := by omega
  obtain ⟨ys, a, why, hr, hpre, ha3, han, hw2, hw4, hB, hBr⟩ := hcut.2 (by omega)
  have hylen : ys.length ≤ xs.length + 1 := by have := hpre.length_le; unfold alls at this; simpa using this
  have hcnt := (unhide HK).cnt
  have hyf : ∀ y, y ∈ ys → Fit y := by have := (rdV t).2; intro y hy; exact this y (by show y ∈ (readL (bs t)).1; rw [hr]; exact hy)
  have h16 : ∀ W : World, Calls Tryz.prog 16 #[.string t] W fun e w' => ∃ b c, ∃ ps : List (Inp × Value), e = .returned (.tuple #[.slice b ys.length c, .int .i64 a, .int .i64 why]) ∧ InsAt w' W.heap.size (.slice b ys.length c) ps ∧ ps.map (·.1) = ys ∧ Fr (fun _ => False) W w' (fun _ => False) := fun W => by
    refine (read_ps t htz W).mono ?_
    rintro e w' ⟨b, c, ps, rfl, hi, hp, hf⟩
    rw [hr] at hp ⊢
    have hl : ps.length = ys.length := by have := congrArg List.length hp; simpa using this
    rw [hl] at hi ⊢
    exact ⟨b, c, ps, rfl, hi, hp, hf⟩
  have H16 := hide h16
  have hhd := (unhide HK).heard
  have ga : (a : Int) ≤ (n : Int) := by omega
  have gb : (3 : Int) ≤ (a : Int) := by omega
  have gc : (2 : Int) ≤ (why : Int) := by omega
  have gd : (why : Int) ≤ 4 := by omega
  clear h16 hcut
  go_wp2_with fail
  go_at_call 16
  refine (unhide H16 _).mono ?_
  rintro e w5 ⟨ba, bc, ps, rfl, insB, hps, f5⟩
  have f45 := (unhide F4).trans f5
  have c5 := fun j => cell_of_row w5 _ j _ 39 (0, 0) (unhide HKEEP _ f45)
  have hpl : ps.length = ys.length := by have := congrArg List.length hps; simpa using this
  have h19 := heads_any insB ((unhide INSA).fr f5) (by rw [hps, unhide HPSA]; exact hpre) (by omega) (fun q hq => fit_files (hyf q.1 (by rw [← hps]; exact List.mem_map_of_mem hq)))
  rw [hpl] at h19
  have H19 := hide h19
  have F45 := hide f45
  clear insB f5 f45 h19 H16 c4 hyf hpl hps
  go_wp2_with fail
  go_at_call 19
  refine (unhide H19).mono ?_
  rintro e w6 ⟨rfl, f6⟩
  have f46 := (unhide F45).trans f6
  have c6 := fun j => cell_of_row w6 _ j _ 39 (0, 0) (unhide HKEEP _ f46)
  have F46 := hide f46
  clear f6 f46 F45 H19 c5
  go_wp2_with fail
  go_at_call 15
  refine ((unhide HK).replay (unhide HTAB) ((unhide HF3).trans (unhide F46)) t htz (by rw [hr]; show ys.length ≤ _; omega)).mono ?_
  rintro e w7 ⟨f7, ⟨h0, _⟩ | ⟨_, ra, rc, r, hrr, rfl, ho⟩⟩
  · rw [hr] at h0; change a = 0 at h0; omega
  rw [← hrr] at hB hBr
  have hrh : r.heard ≤ (xs.length : Int) := by
    rcases hBr with ⟨_, e⟩ | ⟨h1, _, h2⟩
    · rw [e]; exact Int.le_of_eq hhd
    · rw [h2]; omega
  have f47 := (unhide F46).trans f7
  have c7 := fun j => cell_of_row w7 _ j _ 39 (0, 0) (unhide HKEEP _ f47)
  have hlt7 : w2.heap.size < w7.heap.size := (Array.getElem?_eq_some_iff.1 (unhide HKEEP _ f47)).1
  have hne7 : w2.heap.size ≠ w7.heap.size := by omega
  have hne7' : ¬ w7.heap.size = w2.heap.size := by omega
  have hrl : r.trace.length ≤ s.trace.length := hB.length_le
  have hstb := (unhide HK).trb
  have W8f : Fr (fun _ => False) w7 (w7.alloc (.cells #[.int .i64 r.fin, .int .i64 (r.reg 0), .int .i64 (r.reg 1), .int .i64 (r.reg 2), .int .i64 (r.reg 3), .int .i64 r.clock, .int .i64 r.heard] 37)) (fun _ => False) := (Fr.refl _ _).alloc _
  have o7 : OpsIn (w7.alloc (.cells #[.int .i64 r.fin, .int .i64 (r.reg 0), .int .i64 (r.reg 1), .int .i64 (r.reg 2), .int .i64 (r.reg 3), .int .i64 r.clock, .int .i64 r.heard] 37)) (.slice ra r.trace.length rc) r.trace.length (fun i => r.trace.getD i (0, 0, 0)) := row_ops' (ownsRow_of_block ho (fun q hq => W8f.same q (World.ownsRow.lt ho q hq).2 (fun h => h))) (by omega)
  have H20 := hide (begins_any (w := w7.alloc (.cells #[.int .i64 r.fin, .int .i64 (r.reg 0), .int .i64 (r.reg 1), .int .i64 (r.reg 2), .int .i64 (r.reg 3), .int .i64 r.clock, .int .i64 r.heard] 37)) o7 ((unhide HK).row ((unhide HF3).trans (f47.trans W8f))) hrl (by omega) (fun i hi => by
    obtain ⟨u, hu⟩ := hB
    simp only [List.getD_eq_getElem?_getD]
    rw [← hu, List.getElem?_append_left hi]))
  have F47 := hide f47
  have W8F := hide W8f
  have k8 : (w7.alloc (.cells #[.int .i64 r.fin, .int .i64 (r.reg 0), .int .i64 (r.reg 1), .int .i64 (r.reg 2), .int .i64 (r.reg 3), .int .i64 r.clock, .int .i64 r.heard] 37)).heap[w2.heap.size]? = some (.cells #[.slice s1a n1 s1c, .slice s2a n2 s2c, .slice s3a n3 s3c, .int .i64 fu, .string lg, .slice ta s.trace.length tc, .int .i64 s.fin, .int .i64 (s.reg 0), .int .i64 (s.reg 1), .int .i64 (s.reg 2), .int .i64 (s.reg 3), .int .i64 s.clock, .int .i64 s.heard, .bool true] 39) := (Below.heap_alloc _ _ _ hlt7).trans (unhide HKEEP _ f47)
  have k9 : (w7.alloc (.cells #[.int .i64 r.fin, .int .i64 (r.reg 0), .int .i64 (r.reg 1), .int .i64 (r.reg 2), .int .i64 (r.reg 3), .int .i64 r.clock, .int .i64 r.heard] 37)).heap[w7.heap.size]? = some (.cells #[.int .i64 r.fin, .int .i64 (r.reg 0), .int .i64 (r.reg 1), .int .i64 (r.reg 2), .int .i64 (r.reg 3), .int .i64 r.clock, .int .i64 r.heard] 37) := heap_alloc_new _ _
  have K8 := hide (fun j => cell_of_row _ _ j _ 39 (0, 0) k8)
  have K9 := hide (fun j => cell_of_row _ _ j _ 37 (0, 0) k9)
  clear k8 k9 f7 f47 F46 c6 ho o7 W8f hr hrr hB hBr hpre
  go_wp2_with (go_at_call 20; refine (unhide H20).mono ?_; rintro e w8 ⟨rfl, d8⟩; have c8 := fun j => (d8.cell ⟨w2.heap.size, j, none⟩).trans (unhide K8 j); have r8 := fun j => (d8.cell ⟨w7.heap.size, j, none⟩).trans (unhide K9 j); have D8 := hide d8; clear d8)
  go_ret
  refine ⟨rfl, ?_⟩
  have e1 := (unhide HK).fr.trans ((unhide HF3).trans ((unhide F47).trans (unhide W8F)))
  obtain ⟨m, rfl⟩ := unhide D8
  exact e1.drewN m
end Go.Proofs.YtfmbebofllgmoaaGreatDoor

