/-
  PROVED HERE: the loop's handle runs a handler as the model (hM) says, over a source that keeps its word.
-/
import Derived.Test.YtfmbebofllgmoaaDoorLoopa
namespace Go.Proofs.YtfmbebofllgmoaaDoor
open Go.RowKit
attribute [local go_sem ↓] Go.wp_at_zero Go.wp_at_succ

section
variable {σ : Type} {SA : (Nat → Prop) → World → σ → Prop} {ask : σ → Int → Int → Rep × σ} {may : Int → Int → Prop} {B : Nat} {S T : Nat → Prop} {w : World} {b : Nat} {pv : Nat → Value} {vt : Value} {s : PS} {x : σ}

/-- How far a handler has come. -/
def HRel (SA : (Nat → Prop) → World → σ → Prop) (ask : σ → Int → Int → Rep × σ) (B : Nat) (S : Nat → Prop) (w : World) (b : Nat) (pv : Nat → Value) (f : Nat → O3) (n N : Nat) (fin : PS × σ) (k : Nat) (wr : World) : Prop :=
  ∃ S' vt' T' s' x', RI SA B S' wr b pv vt' T' s' x' ∧ Fr S w wr S' ∧ hM ask f n k s' x' = fin ∧ QInv N s' ∧ 0 ≤ s'.next ∧ s'.next ≤ 40 ∧ n ≤ s'.next.toNat + k

theorem hM_stop (f : Nat → O3) (n k : Nat) (s : PS) (x : σ) (h : ¬ (s.next < n ∧ s.fin = 0)) : hM ask f n k s x = (s, x) := by
  cases k with
  | zero => rfl
  | succ k => simp only [hM]; rw [if_neg h]

theorem hrel_next {w2 : World} {S2 T2 : Nat → Prop} {vt2 : Value} {s2 : PS} {x2 : σ} {f : Nat → O3} {n N k' : Nat} {fin : PS × σ} {nx : Int} (p1 : RI SA B S2 w2 b pv vt2 T2 s2 x2) (p2 : Fr S w w2 S2) (e : fin = hM ask f n k' s2 x2) (q : QInv N s2)
    (hx : s2.next = nx + 1 ∨ s2.next = nx + 1 + 1) (h0 : 0 ≤ nx) (h1 : nx < n) (hn : n ≤ 32) (h7 : n ≤ nx.toNat + (k' + 1)) : HRel SA ask B S w b pv f n N fin k' w2 :=
  ⟨S2, vt2, T2, s2, x2, p1, p2, e.symm, q, by omega, by omega, by omega⟩

set_option maxHeartbeats 4000000 in
theorem handle_any (L : SrcLaw SA) {rb : Nat} (K : HearSpec SA ask may rb) (hp : pv 3 = .iface 46 (.pointer (some ⟨rb, 0, none⟩))) (hm : may 1 0) (hm4 : ∀ v, 1 ≤ v → v ≤ 1000000 → may 4 v) (hk : ClockOk ask)
    {w0 : World} (hB : B = w0.heap.size) (hbel : Below w0.heap.size w0 w) (h : RI SA B S w b pv vt T s x) {v : Value} {n N nt nf : Nat} {f : Nat → O3} (hv : OpsIn w0 v n f) (hn : n ≤ 32) (hnt : nt ≤ 8) (hnf : nf ≤ 8) (hr : ∀ i, i < n → rt (f i) nt nf = true) (hq : QInv N s) (hN : N ≤ 100000000) :
    Calls Tryd.prog 18 #[.pointer (some ⟨b, 0, none⟩), v] w fun e w' => e = .returned (.tuple #[]) ∧ RunPost SA B S w b pv (hM ask f n n { s with next := 0 } x).1 (hM ask f n n { s with next := 0 } x).2 w' := by
  obtain ⟨va, vc, rfl, vl, hf⟩ := hv
  have hin := h.inB
  have c0 := h.cell 17 (by omega)
  have z0 := h.free 17 (by omega)
  generalize img pv vt s 17 = o17 at c0
  have hb := (h.bound b h.inB).2
  have h0 := h.set L 17 (.int .i64 0) { s with next := 0 } (by omega) (set_next pv vt s 0) rfl
  have r0 : HRel SA ask B S w b pv f n N (hM ask f n n { s with next := 0 } x) n (w.setCell ⟨b, 17, none⟩ (.int .i64 0)) :=
    ⟨S, vt, T, _, x, h0, (Fr.refl S w).setCell _ _ (.inl hin), rfl, ⟨hq.fuel, hq.clock, hq.armings, hq.trace⟩, Int.le_refl 0, by show (0 : Int) ≤ 40; omega, by simp⟩
  have hSB : ∀ k, S k → B ≤ k := fun k hk => (h.bound k hk).1
  have hBw : B ≤ w.heap.size := by have := h.bound b h.inB; omega
  generalize hM ask f n n { s with next := 0 } x = fin at *
  have HF := hide hf
  have HR := hide hr
  have R0 := hide r0
  have HSB := hide hSB
  have HBW := hide hBw
  have HBEL := hide hbel
  have HBE := hide hB
  clear h h0 hf hr r0 hq hin hSB hBw hbel hB
  go_enter Tryd.func18, Tryd.ntmps18
  go_wp2
  go_loopg [4] n (fun k u wr => HRel SA ask B S w b pv f n N fin k wr)
  case atStart => exact unhide R0
  case round =>
    obtain ⟨S', vt', T', s', x', q1, q2, q3, q4, q5, q6, q7⟩ := hrel
    have c17 := (q1.cell 17 (by omega)).trans (by rw [img_next])
    have c66 := (q1.cell 66 (by omega)).trans (by rw [img_fin])
    have c16 := (q1.cell 16 (by omega)).trans (by rw [img_fuel])
    have f16 := q1.free 16 (by omega)
    have f17 := q1.free 17 (by omega)
    have f66 := q1.free 66 (by omega)
    have hbr := (q1.bound b q1.inB).2
    by_cases hlt : s'.next < n
    · by_cases hfi : s'.fin = 0
      · obtain ⟨k', rfl⟩ : ∃ k', gk = k' + 1 := ⟨gk - 1, by omega⟩
        have hu : hM ask f n (k' + 1) s' x' = if s'.fuel = 0 then ({ s' with fin := 3 }, x') else hM ask f n k' (opM ask (f s'.next.toNat) { s' with fuel := s'.fuel - 1, next := s'.next + 1 } x').1 (opM ask (f s'.next.toNat) { s' with fuel := s'.fuel - 1, next := s'.next + 1 } x').2 := by
          simp only [hM]; rw [if_pos ⟨hlt, hfi⟩]
        have hfb : (s'.fin == 0) = true := by simpa using hfi
        by_cases hfu : s'.fuel = 0
        · rw [if_pos hfu] at hu
          have q := q1.set L 66 (.int .i64 3) { s' with fin := 3 } (by omega) (set_fin pv vt' s' 3) rfl
          have hub : (s'.fuel == 0) = true := by simpa using hfu
          have Q1 := hide q
          have Q2 := hide (q2.setCell ⟨b, 66, none⟩ (.int .i64 3) (by by_cases hs : S b; exact .inl hs; exact .inr (Nat.le_of_not_lt fun hl => hs (q2.old b hl q1.inB))))
          have E := hide (q3.symm.trans hu)
          clear q q1 q2 q3 q4 hu hfi hfu
          generalize s'.next = nx at *
          generalize s'.fin = fi at *
          generalize s'.fuel = fu at *
          go_wp2
          refine bodyPost_ret (v := .tuple #[]) (by simp [results, Tryd.results18, go_sem]) rfl ?_
          rw [unhide E]
          exact ⟨rfl, S', vt', T', unhide Q1, unhide Q2⟩
        · rw [if_neg hfu] at hu
          have hub : (s'.fuel == 0) = false := by simpa using hfu
          rcases unhide HF with hz | ⟨ob, off, rfl, hf⟩
          · omega
          have hi : s'.next.toNat < n := by omega
          have hbw : Below w0.heap.size w0 wr := (unhide HBEL).trans (unhide HBE ▸ q2.below (unhide HSB) (unhide HBW))
          have hop := opAt_below hbw (hf _ hi)
          have hob : ob < w0.heap.size := opAt_lt (hf _ hi)
          have hBb : B ≤ b := (q1.bound b q1.inB).1
          have hne : ¬ b = ob := by have := unhide HBE; omega
          have hne' : ¬ ob = b := by omega
          have hobw : ob < wr.heap.size := opAt_lt hop
          have hrt := unhide HR _ hi
          have e1 : (0 : Int) ≤ s'.next := q5
          have e2 : s'.next < (n : Int) := hlt
          generalize hgo : f s'.next.toNat = o at *
          obtain ⟨c, a, v⟩ := o
          obtain ⟨g0, g1, g2⟩ := hop
          have hc := right_code (show rightB c a v nt nf = true from hrt)
          have qf := q4.fuel
          have h1 := ((((q1.set L 16 (.int .i64 (s'.fuel - 1)) _ (by omega) (set_fuel pv vt' s' (s'.fuel - 1)) rfl).set L 17 (.int .i64 (s'.next + 1)) _ (by omega) (set_next pv vt' _ (s'.next + 1)) rfl).alloc L (.cells #[.int .i64 c, .int .i64 a, .int .i64 v] 30)).drew L)
          have hact := act_any L K hp h1 hm hm4 c a v nt nf hnt hnf hrt ⟨⟨by show 0 ≤ s'.next + 1; omega, by show s'.next + 1 ≤ 1000; omega⟩, q4.clock, ⟨q4.armings.1, by have := q4.armings.2; show s'.armings ≤ 5000; omega⟩, by have := q4.trace; show s'.trace.length ≤ 100000000; omega⟩
          have hact' := h1.cell (4 + c.toNat) (by omega)
          rw [img_act _ _ _ _ (by omega)] at hact'
          have HACT := hide hact
          have HACTV := hide hact'
          have hnx := opM_next (ask := ask) (c, a, v) { s' with fuel := s'.fuel - 1, next := s'.next + 1 } x'
          have hnv := opM_inv hk (c, a, v) { s' with fuel := s'.fuel - 1, next := s'.next + 1 } x' (N := N) ⟨⟨by show 0 ≤ s'.fuel - 1; omega, by show s'.fuel - 1 ≤ 5000; omega⟩, q4.clock, ⟨q4.armings.1, by have := q4.armings.2; show s'.armings + (s'.fuel - 1) ≤ 5000; omega⟩, by have := q4.trace; show s'.trace.length + (s'.fuel - 1).toNat ≤ N; omega⟩ (by have := q4.armings.2; show s'.armings + (s'.fuel - 1) + 1 ≤ 5000; omega) (by have := q4.trace; show s'.trace.length + (s'.fuel - 1).toNat + 1 ≤ N; omega)
          have hSb : S b ∨ w.heap.size ≤ b := by
            by_cases hs : S b
            · exact .inl hs
            · exact .inr (Nat.le_of_not_lt fun hl => hs (q2.old b hl q1.inB))
          have Q2 := hide (((((q2.setCell ⟨b, 16, none⟩ (.int .i64 (s'.fuel - 1)) hSb).setCell ⟨b, 17, none⟩ (.int .i64 (s'.next + 1)) hSb).alloc (.cells #[.int .i64 c, .int .i64 a, .int .i64 v] 30)).drew))
          have E := hide (q3.symm.trans hu)
          have HNX := hide hnx
          have HNV := hide hnv
          clear hu q1 q2 q3 q4 hact hact' h1 hf hfi hfu hrt hnx hnv hbw
          go_wp2
          have hcs : c = 1 ∨ c = 2 ∨ c = 3 ∨ c = 4 ∨ c = 5 ∨ c = 6 ∨ c = 7 ∨ c = 8 ∨ c = 9 ∨ c = 10 ∨ c = 11 := by omega
          clear hc
          rcases hcs with rfl | rfl | rfl | rfl | rfl | rfl | rfl | rfl | rfl | rfl | rfl
          · have ha := unhide HACTV
            simp [actV] at ha
            go_region_with (go_at_call 23; refine (unhide HACT).mono ?_; rintro e w2 ⟨rfl, S2, vt2, T2, p1, p2⟩; have P1 := hide p1; have P2 := hide p2; clear p1 p2)
            all_goals
              go_wp2
              go_roundg k'
              case rel => exact hrel_next (unhide P1) ((unhide Q2).trans (unhide P2)) (unhide E) (unhide HNV) (unhide HNX) e1 e2 hn q7
              case measure => omega
          · have ha := unhide HACTV
            simp [actV] at ha
            go_region_with (go_at_call 24; refine (unhide HACT).mono ?_; rintro e w2 ⟨rfl, S2, vt2, T2, p1, p2⟩; have P1 := hide p1; have P2 := hide p2; clear p1 p2)
            all_goals
              go_wp2
              go_roundg k'
              case rel => exact hrel_next (unhide P1) ((unhide Q2).trans (unhide P2)) (unhide E) (unhide HNV) (unhide HNX) e1 e2 hn q7
              case measure => omega
          · have ha := unhide HACTV
            simp [actV] at ha
            go_region_with (go_at_call 25; refine (unhide HACT).mono ?_; rintro e w2 ⟨rfl, S2, vt2, T2, p1, p2⟩; have P1 := hide p1; have P2 := hide p2; clear p1 p2)
            all_goals
              go_wp2
              go_roundg k'
              case rel => exact hrel_next (unhide P1) ((unhide Q2).trans (unhide P2)) (unhide E) (unhide HNV) (unhide HNX) e1 e2 hn q7
              case measure => omega
          · have ha := unhide HACTV
            simp [actV] at ha
            go_region_with (go_at_call 26; refine (unhide HACT).mono ?_; rintro e w2 ⟨rfl, S2, vt2, T2, p1, p2⟩; have P1 := hide p1; have P2 := hide p2; clear p1 p2)
            all_goals
              go_wp2
              go_roundg k'
              case rel => exact hrel_next (unhide P1) ((unhide Q2).trans (unhide P2)) (unhide E) (unhide HNV) (unhide HNX) e1 e2 hn q7
              case measure => omega
          · have ha := unhide HACTV
            simp [actV] at ha
            go_region_with (go_at_call 27; refine (unhide HACT).mono ?_; rintro e w2 ⟨rfl, S2, vt2, T2, p1, p2⟩; have P1 := hide p1; have P2 := hide p2; clear p1 p2)
            all_goals
              go_wp2
              go_roundg k'
              case rel => exact hrel_next (unhide P1) ((unhide Q2).trans (unhide P2)) (unhide E) (unhide HNV) (unhide HNX) e1 e2 hn q7
              case measure => omega
          · have ha := unhide HACTV
            simp [actV] at ha
            go_region_with (go_at_call 28; refine (unhide HACT).mono ?_; rintro e w2 ⟨rfl, S2, vt2, T2, p1, p2⟩; have P1 := hide p1; have P2 := hide p2; clear p1 p2)
            all_goals
              go_wp2
              go_roundg k'
              case rel => exact hrel_next (unhide P1) ((unhide Q2).trans (unhide P2)) (unhide E) (unhide HNV) (unhide HNX) e1 e2 hn q7
              case measure => omega
          · have ha := unhide HACTV
            simp [actV] at ha
            go_region_with (go_at_call 29; refine (unhide HACT).mono ?_; rintro e w2 ⟨rfl, S2, vt2, T2, p1, p2⟩; have P1 := hide p1; have P2 := hide p2; clear p1 p2)
            all_goals
              go_wp2
              go_roundg k'
              case rel => exact hrel_next (unhide P1) ((unhide Q2).trans (unhide P2)) (unhide E) (unhide HNV) (unhide HNX) e1 e2 hn q7
              case measure => omega
          · have ha := unhide HACTV
            simp [actV] at ha
            go_region_with (go_at_call 30; refine (unhide HACT).mono ?_; rintro e w2 ⟨rfl, S2, vt2, T2, p1, p2⟩; have P1 := hide p1; have P2 := hide p2; clear p1 p2)
            all_goals
              go_wp2
              go_roundg k'
              case rel => exact hrel_next (unhide P1) ((unhide Q2).trans (unhide P2)) (unhide E) (unhide HNV) (unhide HNX) e1 e2 hn q7
              case measure => omega
          · have ha := unhide HACTV
            simp [actV] at ha
            go_region_with (go_at_call 31; refine (unhide HACT).mono ?_; rintro e w2 ⟨rfl, S2, vt2, T2, p1, p2⟩; have P1 := hide p1; have P2 := hide p2; clear p1 p2)
            all_goals
              go_wp2
              go_roundg k'
              case rel => exact hrel_next (unhide P1) ((unhide Q2).trans (unhide P2)) (unhide E) (unhide HNV) (unhide HNX) e1 e2 hn q7
              case measure => omega
          · have ha := unhide HACTV
            simp [actV] at ha
            go_region_with (go_at_call 32; refine (unhide HACT).mono ?_; rintro e w2 ⟨rfl, S2, vt2, T2, p1, p2⟩; have P1 := hide p1; have P2 := hide p2; clear p1 p2)
            all_goals
              go_wp2
              go_roundg k'
              case rel => exact hrel_next (unhide P1) ((unhide Q2).trans (unhide P2)) (unhide E) (unhide HNV) (unhide HNX) e1 e2 hn q7
              case measure => omega
          · have ha := unhide HACTV
            simp [actV] at ha
            go_region_with (go_at_call 33; refine (unhide HACT).mono ?_; rintro e w2 ⟨rfl, S2, vt2, T2, p1, p2⟩; have P1 := hide p1; have P2 := hide p2; clear p1 p2)
            all_goals
              go_wp2
              go_roundg k'
              case rel => exact hrel_next (unhide P1) ((unhide Q2).trans (unhide P2)) (unhide E) (unhide HNV) (unhide HNX) e1 e2 hn q7
              case measure => omega
      · have e := hM_stop (ask := ask) f n gk s' x' (fun hh => hfi hh.2)
        have hfb : (s'.fin == 0) = false := by simpa using hfi
        have Q1 := hide q1
        have Q2 := hide q2
        have E := hide (q3.symm.trans e)
        clear q1 q2 q3 q4 e hfi
        generalize s'.next = nx at *
        generalize s'.fin = fi at *
        go_wp2
        go_end0
        rw [unhide E]
        exact ⟨rfl, S', vt', T', unhide Q1, unhide Q2⟩
    · have e := hM_stop (ask := ask) f n gk s' x' (fun hh => hlt hh.1)
      have Q1 := hide q1
      have Q2 := hide q2
      have E := hide (q3.symm.trans e)
      clear q1 q2 q3 q4 e
      generalize s'.next = nx at *
      generalize s'.fin = fi at *
      go_wp2
      go_end0
      rw [unhide E]
      exact ⟨rfl, S', vt', T', unhide Q1, unhide Q2⟩
end
end Go.Proofs.YtfmbebofllgmoaaDoor
