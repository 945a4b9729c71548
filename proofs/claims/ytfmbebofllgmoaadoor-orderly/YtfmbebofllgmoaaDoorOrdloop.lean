/-
  PROVED HERE: Orderly.
-/
import Derived.Test.YtfmbebofllgmoaaDoorOrders
import Derived.Deep.DeepCutAuto
namespace Go.Proofs.YtfmbebofllgmoaaDoor
open Go.RowKit
attribute [local go_sem ↓] Go.wp_at_zero Go.wp_at_succ

theorem L1.start (w : World) : L1 w w.heap.size (w.alloc (.cells #[.slice none 0 0, .slice none 0 0, .slice none 0 0] 27)) (.slice none 0 0) [] (.slice none 0 0) [] (.slice none 0 0) [] := by
  have hb := heap_alloc_new w (.cells #[.slice none 0 0, .slice none 0 0, .slice none 0 0] 27)
  refine ⟨(Fr.refl _ w).alloc _, ⟨Nat.le_refl _, by simp⟩, cell_of_row _ _ 0 _ 27 (0, 0) hb, cell_of_row _ _ 1 _ 27 (0, 0) hb, cell_of_row _ _ 2 _ 27 (0, 0) hb, fun j => frozen_rowE hb j, World.ownsRow_nil _ _ _ _, World.ownsRow_nil _ _ _ _, World.ownsRow_nil _ _ _ _, fun g hg => by simp at hg, ?_⟩
  refine ⟨?_, ?_, ?_, ?_, ?_⟩ <;> simp [own, Value.ownBlock]

theorem dueQ_length (ats : List Int) (al : Nat → Bool) (t kk : Nat) : (dueQ ats al t kk).length ≤ kk := by
  unfold dueQ
  exact Nat.le_trans (List.length_filter_le _ _) (by simp)
theorem dueP_length (ats : List Int) (hn : ats.length ≤ 8) (al : Nat → Bool) (t : Nat) : (dueP ats al t).length ≤ t * 8 := by
  induction t with
  | zero => simp [dueP]
  | succ t ih =>
    rw [dueP_succ, List.length_append]
    have := dueQ_length ats al t ats.length
    omega
theorem ownI_at {w : World} {B g n cap : Nat} {l : List Int} (h : OwnI w B (.slice (some ⟨g, 0, none⟩) n cap) l) (i : Nat) (hi : i < l.length) : w.cell? ⟨g, i, none⟩ = some (.int .i64 (l.getD i 0)) ∧ w.frozen? ⟨g, i, none⟩ = false := by
  obtain ⟨g', cap', cur, hv, hB, hg, h1, h2, h3, hc⟩ := ownI_parts h (by omega)
  injection hv with e1 e2 e3
  injection e1 with e1
  injection e1 with e1 _ _
  subst e1
  exact ⟨hc i hi, frozen_rowE hg i⟩
theorem ownI_len {w : World} {B : Nat} {v : Value} {l : List Int} (h : OwnI w B v l) : ∃ a c, v = .slice a l.length c := by
  rcases h.2 with ⟨h1, h2⟩ | ⟨g, cap, cur, hv, _⟩
  · exact ⟨none, 0, by rw [h2]; exact h1⟩
  · exact ⟨_, _, hv⟩
def Rel3 (w8 : World) (B : Nat) (ats cs : List Int) (T : List O3 × Int × Int) (u : Value) (u16 u17 u18 u19 : Value) (wr : World) : Prop :=
  ∃ (i : Nat) (al : Nat → Bool) (W : List O3), i ≤ cs.length ∧ u19 = .int .i64 i ∧ u18 = .int .i64 (2 * (i : Int)) ∧ u17 = .int .i64 (cnt ats.length al) ∧ L3 w8 B ats u wr al u16 W ∧
    W ++ (ordR ats (cs.drop i) al).1 = T.1 ∧ (ordR ats (cs.drop i) al).2.1 = T.2.1 ∧ 2 * (i : Int) + (ordR ats (cs.drop i) al).2.2 = T.2.2 ∧ W.length ≤ 16 * i
def Rel4 (w8 : World) (B : Nat) (ats : List Int) (c : Int) (al : Nat → Bool) (W : List O3) (u : Value) (u16 u17 u20 : Value) (wr : World) : Prop :=
  ∃ t : Nat, t ≤ c.toNat + 1 ∧ u20 = .int .i64 t ∧ u17 = .int .i64 (cnt ats.length (alT ats al t)) ∧ L3 w8 B ats u wr (alT ats al t) u16 (W ++ evL (dueP ats al t))
def Rel5 (w8 : World) (B : Nat) (ats : List Int) (t : Nat) (al : Nat → Bool) (W : List O3) (u : Value) (u16 u17 u21 : Value) (wr : World) : Prop :=
  ∃ kk : Nat, kk ≤ ats.length ∧ u21 = .int .i64 kk ∧ u17 = .int .i64 (cnt ats.length (alQ ats al t kk)) ∧ L3 w8 B ats u wr (alQ ats al t kk) u16 (W ++ evL (dueP ats al t ++ dueQ ats al t kk))
def Rel1 (w : World) (pb : Nat) (raw : List Int) (u i : Value) (wr : World) : Prop := ∃ (k : Nat) (vs vm : Value) (gs : List Nat), k ≤ min raw.length 8 ∧ i = .int .i64 k ∧ gs.length = k ∧ L1 w pb wr u (atsK raw k) vs (soK raw k) vm gs

set_option maxHeartbeats 8000000 in
set_option maxRecDepth 100000 in
theorem orderly_any (w : World) (htab : TabIn w) (vr vc : Value) (raw cl : List Int) {P : Nat → Prop} (hP : ∀ q, P q → q < w.heap.size) (hr : IntsIn w vr raw P) (hc : IntsIn w vc cl P)
    (br : ∀ j, -9223372036854775808 ≤ raw.getD j 0 ∧ raw.getD j 0 ≤ 9223372036854775807) (bc : ∀ j, -9223372036854775808 ≤ cl.getD j 0 ∧ cl.getD j 0 ≤ 9223372036854775807) :
    Calls Tryd.prog 3 #[vr, vc] w fun e w' => e = .returned (.bool true) ∧ Fr (fun _ => False) w w' (fun _ => False) := by
  have hwk := works_any w htab
  have HWK := hide hwk
  have HTAB := hide htab
  have HBR := hide br
  have HBC := hide bc
  obtain ⟨ra, rc, rfl, hra⟩ := hr
  obtain ⟨ca, cc, rfl, hca⟩ := hc
  have HRA := hide hra
  have HCA := hide hca
  have HP := hide hP
  clear hwk htab br bc hra hca hP
  go_enter Tryd.func3, Tryd.ntmps3
  go_wp2_with (go_at_call 4; refine (unhide HWK).mono ?_; rintro e w1 ⟨rfl, f1⟩; have F1 := hide f1; clear f1)
  go_loopw [7, 8] (fun u i wr => Rel1 w1 w1.heap.size raw u i wr) (fun _ i _ => min raw.length 8 - (intOf i).toNat)
  case atStart => exact ⟨0, _, _, [], Nat.zero_le _, rfl, rfl, L1.start w1⟩
  case round =>
    obtain ⟨k, vs, vm, gs, hk, rfl, hgl, hl⟩ := hrel
    go_upto_region 5 with fail
    go_cut [32] (fun b wc => b = .bool (decide (k < min raw.length 8)) ∧ wr = wc)
    case first =>
      by_cases h9 : (k : Int) < (raw.length : Int)
      · by_cases h8 : (k : Int) < 8
        · have e : decide (k < min raw.length 8) = true := by simp; omega
          go_wp2_with fail
          go_meet
          exact ⟨by rw [e], rfl⟩
        · have e : decide (k < min raw.length 8) = false := by simp; omega
          go_wp2_with fail
          go_meet
          exact ⟨by rw [e], rfl⟩
      · have e : decide (k < min raw.length 8) = false := by simp; omega
        go_wp2_with fail
        go_meet
        exact ⟨by rw [e], rfl⟩
    case rest =>
    obtain ⟨rfl, rfl⟩ := hcut
    by_cases hlt : k < min raw.length 8
    · have hlr : k < raw.length := by omega
      have hl8 : k < 8 := by omega
      have hde : decide (k < min raw.length 8) = true := by simpa using hlt
      rw [hde]
      rcases unhide HRA with hz | ⟨q, off, rfl, hq, hcell⟩
      · rw [hz] at hlr; simp at hlr
      have hql := unhide HP q hq
      have cz : wr.cell? ⟨q, off + k, none⟩ = some (.int .i64 (raw.getD k 0)) := ((unhide F1).trans hl.fr |>.cell q (off + k) hql (fun h => h)).trans (hcell k hlr)
      have H5 := hide (kpick_any (raw.getD k 0) 30 (by omega) (by omega) (unhide HBR k))
      have hbel := hl.fr.size
      have hat : atO raw k = pickI (raw.getD k 0) 30 := rfl
      have hats := atsK_succ raw k
      have hso := soK_succ raw k
      rw [hat] at hats hso
      have hrg := pickI_range (raw.getD k 0) 30 (by omega)
      generalize raw.getD k 0 = rv at *
      generalize pickI rv 30 = z at *
      have HA := hide hats
      have HS := hide hso
      have hla := atsK_length raw k
      have hls := soK_length raw k
      have HL := hide hl
      have i8 : (k : Int) < 8 := by omega
      have ir : (k : Int) < (raw.length : Int) := by omega
      clear hats hso hat hl hcell
      go_wp2_with (first
        | (go_at_call 5; refine (unhide H5 _).mono ?_; rintro e w2 ⟨rfl, rfl⟩)
        | (at_builtin; refine wpList_grow elemI (by omega) (by omega) (B := w1.heap.size) (n := (atsK raw k).length) (m := 1) (xs := (atsK raw k).map fun z => Value.int .i64 z) (news := [.int .i64 z]) rfl (.tmp 35) (.tmp 41) rfl (ad := ⟨w2.heap.size, 0, none⟩) (cap := 1) rfl rfl (((unhide HL).keep ((Fr.refl _ _).alloc _)).at_) rfl (World.news_of_block (heap_alloc_new w2 _)) (by simp [Value.oneCell']) (by omega) (by omega) (by simp; omega) ?_; intro v3 w3 o3 f3 sh3; obtain ⟨a3, c3, rfl⟩ := sh3))
      have o3' : OwnI w3 w1.heap.size (.slice a3 ((atsK raw k).length + 1) c3) (atsK raw (k + 1)) := by
        unfold OwnI
        rw [unhide HA, List.length_append, List.map_append]
        exact o3
      have hl3 := ((unhide HL).keep ((Fr.refl _ _).alloc _)).growAt o3' f3
      have HL3 := hide hl3
      obtain ⟨g3, cp3, cur3, hv3, _, _, _, _, _, hc3⟩ := ownI_parts o3' (by rw [unhide HA, List.length_append]; simp)
      have hk3 := hc3 k (by rw [unhide HA, List.length_append]; simp; omega)
      rw [unhide HA, show ((atsK raw k) ++ [z]).getD k 0 = z by rw [List.getD, List.getElem?_append_right (by omega), hla]; simp] at hk3
      injection hv3 with e1 e2 e3
      subst e1
      have p0 := hl3.c0
      have pf := hl3.fz
      have p1 := (hl3.keep ((Fr.refl _ _).alloc (.cells #[.int .i64 1, .int .i64 0, .int .i64 z, .int .i64 3, .int .i64 k, .int .i64 0] 30))).c0
      have hpn : w1.heap.size ≠ w3.heap.size := by have := hl3.pbn.2; omega
      have hgn : g3 ≠ w3.heap.size := by have := (hl3.ltu (k := g3) rfl).2; omega
      have hk0 : (0 : Int) ≤ (k : Int) := by omega
      have hk1 : (k : Int) < (k : Int) + 1 := by omega
      clear o3 f3 o3' hl3 hc3 HL e2 e3
      go_cut [7] (fun u wc => u = .slice (some ⟨g3, 0, none⟩) (k + 1) c3 ∧ ∃ vs', L1 w1 w1.heap.size wc (.slice (some ⟨g3, 0, none⟩) (k + 1) c3) (atsK raw (k + 1)) vs' (soK raw (k + 1)) vm gs)
      case first =>
        go_region_law (refine step_grow elemO (by omega) (by omega) (B := w1.heap.size) (n := (soK raw k).length) (m := 2) (xs := flatE (soK raw k)) (news := flatE [(1, 0, z), (3, (k : Int), 0)]) rfl (.tmp 44) (.tmp 52) rfl (v := vs) (ad := ⟨w3.heap.size, 0, none⟩) (cap := 2) (by simp [Act.eval]) (by simp [Act.eval]) (((unhide HL3).keep ((Fr.refl _ _).drew.alloc _)).st) rfl (World.news_of_block (heap_alloc_new w3.drew _)) (by simp [flatE, Value.oneCell']) (by omega) (by omega) (by have := (unhide HL3).fr.size; simp; omega) ?_; intro v5 w5 o5 f5 sh5; obtain ⟨a5, c5, rfl⟩ := sh5; have k5 := f5.same w1.heap.size (by have := (unhide HL3).pbn.2; simp; omega) (unhide HL3).sep.2.1; have k6 := ((World.cell?_of_block (a := ⟨w1.heap.size, 0, none⟩) k5).trans (((unhide HL3).keep ((Fr.refl _ _).drew.alloc (.cells #[.int .i64 1, .int .i64 0, .int .i64 z, .int .i64 3, .int .i64 k, .int .i64 0] 30))).c0)); have k7 := fun j => ((World.frozen?_of_block (a := ⟨w1.heap.size, j, none⟩) k5).trans (((unhide HL3).keep ((Fr.refl _ _).drew.alloc (.cells #[.int .i64 1, .int .i64 0, .int .i64 z, .int .i64 3, .int .i64 k, .int .i64 0] 30))).fz j)); have O5 := hide o5; have F5 := hide f5; clear o5 f5 k5)
        all_goals
          go_wp2_with fail
          go_meet
          have hx := ((unhide HL3).keep ((Fr.refl _ _).drew.alloc _)).growSt (so' := soK raw (k + 1)) (by rw [unhide HS, List.length_append, flatE_append]; exact unhide O5) (unhide F5)
          simp only [hla, hls] at hx
          exact ⟨rfl, _, hx⟩
      case rest =>
        obtain ⟨rfl, vs5, hl5⟩ := hcut
        clear HL3 HS HA p0 pf p1 hpn hgn hk3 hk0 hk1 hls
        have q1 := hl5.c1
        have qf := hl5.fz
        have hB5 := hl5.fr.size
        have HL5 := hide hl5
        have hgm : (gs.map slG).length = gs.length := by simp
        clear hl5
        have hw2 : (wc.alloc emitO).heap.size = wc.heap.size + 1 := by simp
        have hnb := heap_alloc_new (wc.alloc emitO) (.cells #[slG wc.heap.size] 24)
        rw [hw2] at hnb
        have HNB := hide hnb
        have hpz := (unhide HL5).pbn.2
        have hL5 := (unhide HL5).keep (((Fr.refl _ _).alloc emitO).alloc (.cells #[slG wc.heap.size] 24))
        have HLA := hide hL5
        have HGE := hide (show ((wc.alloc emitO).alloc (.cells #[slG wc.heap.size] 24)).heap[wc.heap.size]? = some emitO from (Below.heap_alloc _ _ _ (by rw [hw2]; omega)).trans (heap_alloc_new wc _))
        clear hnb hL5
        go_wp2_with (at_builtin; refine wpList_grow elemH (by omega) (by omega) (B := w1.heap.size) (n := gs.length) (m := 1) (xs := gs.map slG) (news := [slG wc.heap.size]) rfl (.tmp 56) (.tmp 59) rfl (ad := ⟨wc.heap.size + 1, 0, none⟩) (cap := 1) rfl rfl (unhide HLA).tm rfl (World.news_of_block (unhide HNB)) (by simp [slG, Value.oneCell']) (by omega) (by omega) (by simp; omega) ?_; intro v6 w6 o6 f6 sh6; obtain ⟨a6, c6, rfl⟩ := sh6; have k5 := f6.same w1.heap.size (unhide HLA).pbn.2 (unhide HLA).sep.2.2.1; have k6 := (World.cell?_of_block (a := ⟨w1.heap.size, 1, none⟩) k5).trans (unhide HLA).c1; have k7 := fun j => (World.frozen?_of_block (a := ⟨w1.heap.size, j, none⟩) k5).trans ((unhide HLA).fz j); have O6 := hide o6; have F6 := hide f6; clear o6 f6 k5)
        go_roundw
        case rel =>
          have hl6 := (unhide HLA).growTm (g := wc.heap.size) (unhide HGE) ⟨hB5, by omega, fun e => by have := ((unhide HL5).ltu e).2; omega, fun e => by have := ((unhide HL5).lts e).2; omega, fun e => by have := ((unhide HL5).ltm e).2; omega⟩ (by rw [List.length_append, List.map_append]; exact unhide O6) (unhide F6)
          rw [hgl] at hl6
          exact ⟨k + 1, vs5, .slice a6 (k + 1) c6, gs ++ [wc.heap.size], by omega, by go_num, by simp [hgl], hl6⟩
        case measure => simp [intOf]; omega
    · have hkk : k = min raw.length 8 := by omega
      have e : decide (k < min raw.length 8) = false := by simp; omega
      rw [e]
      have HL := hide hl
      have HKK := hide hkk
      clear hl e hlt hk hkk
      go_wp2_with fail
      generalize wr = W0 at *
      go_loopw [10, 11] (fun u i wq => Rel2 W0 W0.heap.size cl u i wq) (fun _ i _ => min cl.length 40 - (intOf i).toNat)
      case atStart => exact ⟨0, _, _, Nat.zero_le _, rfl, rfl, L2.start W0⟩
      case round =>
        obtain ⟨j, vq, vb, hj, rfl, rfl, hm⟩ := hrel
        go_upto_region 13 with fail
        go_cut [69] (fun b wc => b = .bool (decide (j < min cl.length 40)) ∧ wr = wc)
        case first =>
          by_cases h9 : (j : Int) < (cl.length : Int)
          · by_cases h8 : (j : Int) < 40
            · have e : decide (j < min cl.length 40) = true := by simp; omega
              go_wp2_with fail
              go_meet
              exact ⟨by rw [e], rfl⟩
            · have e : decide (j < min cl.length 40) = false := by simp; omega
              go_wp2_with fail
              go_meet
              exact ⟨by rw [e], rfl⟩
          · have e : decide (j < min cl.length 40) = false := by simp; omega
            go_wp2_with fail
            go_meet
            exact ⟨by rw [e], rfl⟩
        case rest =>
        obtain ⟨rfl, rfl⟩ := hcut
        by_cases hlt2 : j < min cl.length 40
        · have hlc : j < cl.length := by omega
          have hde2 : decide (j < min cl.length 40) = true := by simpa using hlt2
          rw [hde2]
          rcases unhide HCA with hz | ⟨q, off, rfl, hq, hcell⟩
          · rw [hz] at hlc; simp at hlc
          have hql := unhide HP q hq
          have cz : wr.cell? ⟨q, off + j, none⟩ = some (.int .i64 (cl.getD j 0)) := ((((unhide F1).trans (unhide HL).fr).trans hm.fr).cell q (off + j) hql (fun h => h)).trans (hcell j hlc)
          have H5 := hide (kpick_any (cl.getD j 0) 6 (by omega) (by omega) (unhide HBC j))
          have hnw : nowK cl (j + 1) = nowK cl j + pickI (cl.getD j 0) 6 := rfl
          have hcs := csK_succ cl j
          have hlen := csK_length cl j
          have hn0 := nowK_le cl j
          have hrg := pickI_range (cl.getD j 0) 6 (by omega)
          rw [hnw] at hcs
          have HNW := hide hnw
          generalize cl.getD j 0 = rv at *
          generalize pickI rv 6 = z at *
          generalize nowK cl j = nw at *
          have hwr : IntKind.i64.wrap (nw + z) = nw + z := by rw [IntKind.wrap_i64]; omega
          have HCS := hide hcs
          have HM := hide hm
          have p0 := hm.c0
          have hbz := hm.fr.size
          have ij : (j : Int) < 40 := by omega
          have ir2 : (j : Int) < (cl.length : Int) := by omega
          clear hcs hm hcell hnw
          go_wp2_with (first
            | (go_at_call 5; refine (unhide H5 _).mono ?_; rintro e w2 ⟨rfl, rfl⟩)
            | (at_builtin; refine wpList_grow elemI (by omega) (by omega) (B := W0.heap.size) (n := (csK cl j).length) (m := 1) (xs := (csK cl j).map fun z => Value.int .i64 z) (news := [.int .i64 (nw + z)]) rfl (.tmp 80) (.tmp 82) rfl (ad := ⟨w2.heap.size, 0, none⟩) (cap := 1) rfl rfl (((unhide HM).keep ((Fr.refl _ _).alloc _)).at_) rfl (World.news_of_block (heap_alloc_new w2 _)) (by simp [Value.oneCell']) (by omega) (by omega) (by simp; omega) ?_
               intro v3 w3 o3 f3 sh3
               obtain ⟨a3, c3, rfl⟩ := sh3
               have o3' : OwnI w3 W0.heap.size (.slice a3 ((csK cl j).length + 1) c3) (csK cl (j + 1)) := by
                 unfold OwnI
                 rw [unhide HCS, List.length_append, List.map_append]
                 exact o3
               have hm3 := ((unhide HM).keep ((Fr.refl _ _).alloc (.cells #[.int .i64 (nw + z)] 3)))
               have k5 := f3.same W0.heap.size hm3.pbn.2 hm3.sep.1
               have k6 := (World.cell?_of_block (a := ⟨W0.heap.size, 0, none⟩) k5).trans hm3.c0
               have k7 := fun i => (World.frozen?_of_block (a := ⟨W0.heap.size, i, none⟩) k5).trans (hm3.fz i)
               have hm4 := hm3.growC o3' f3
               rw [hlen] at hm4
               have k8 := hm4.c1
               have HM4 := hide hm4
               have hz4 := hm4.fr.size
               have hsz3 : (w3.setCell ⟨W0.heap.size, 0, none⟩ (.slice a3 (j + 1) c3)).heap.size = w3.heap.size := by simp [World.setCell]
               have hnb3 := heap_alloc_new (w3.setCell ⟨W0.heap.size, 0, none⟩ (.slice a3 (j + 1) c3)) (.cells #[.slice none 0 0] 22)
               rw [hsz3] at hnb3 hz4
               have HNB3 := hide hnb3
               clear hnb3
               clear o3 f3 o3' hm3 hm4 k5 HM)
            | (at_builtin; refine wpList_grow elemB (by omega) (by omega) (B := W0.heap.size) (n := j) (m := 1) (xs := List.replicate j (.slice none 0 0)) (news := [.slice none 0 0]) rfl (.tmp 86) (.tmp 87) rfl (ad := ⟨w3.heap.size, 0, none⟩) (cap := 1) rfl rfl (((unhide HM4).keep ((Fr.refl _ _).alloc _)).bt) rfl (World.news_of_block (unhide HNB3)) (by simp [Value.oneCell']) (by omega) (by omega) (by simp; omega) ?_
               intro v6 w6 o6 f6 sh6
               obtain ⟨a6, c6, rfl⟩ := sh6
               have hm5 := ((unhide HM4).keep ((Fr.refl _ _).alloc (.cells #[.slice none 0 0] 22)))
               have k15 := f6.same W0.heap.size hm5.pbn.2 hm5.sep.2.1
               have k16 := (World.cell?_of_block (a := ⟨W0.heap.size, 1, none⟩) k15).trans hm5.c1
               have k17 := fun i => (World.frozen?_of_block (a := ⟨W0.heap.size, i, none⟩) k15).trans (hm5.fz i)
               have o6' : w6.ownsRow W0.heap.size 22 1 (.slice a6 (j + 1) c6) (j + 1) (List.replicate (j + 1) (.slice none 0 0)) := by rw [List.replicate_succ']; exact o6
               have hm6 := hm5.growB o6' f6
               have HM6 := hide hm6
               clear o6 f6 o6' hm5 hm6 k15 HM4))
          refine ⟨⟨j + 1, _, _, by omega, by rw [unhide HNW], by go_num, unhide HM6⟩, by simp [intOf]; omega⟩
        · have hjj : j = min cl.length 40 := by omega
          have e2 : decide (j < min cl.length 40) = false := by simpa using hlt2
          rw [e2]
          have hk8 : k ≤ 8 := by have := unhide HKK; omega
          have hj40 : j ≤ 40 := by omega
          have hl1 := unhide HL
          obtain ⟨a7, c7, rfl⟩ := ownI_len hl1.at_
          rw [atsK_length] at hl1
          have HL := hide hl1
          have d0 := (hm.fr.cell w1.heap.size 0 hl1.pbn.2 (fun h => h)).trans hl1.c0
          have d1 := (hm.fr.cell w1.heap.size 1 hl1.pbn.2 (fun h => h)).trans hl1.c1
          have d2 := (hm.fr.cell w1.heap.size 2 hl1.pbn.2 (fun h => h)).trans hl1.c2
          have q0 := hm.c0
          have q1 := hm.c1
          have q2 := hm.c2
          have q3 := hm.c3
          have hfw := ((unhide F1).trans hl1.fr).trans hm.fr
          have hpg := hl1.pgAt hk8 hgl
          have hvals : ValsIn wr vb ((List.replicate j ((Value.slice none 0 0, []) : Value × List Int)).map (·.1)) (fun q => q < wr.heap.size) := by
            rw [List.map_replicate]
            rcases Nat.eq_zero_or_pos j with h0 | h0
            · subst h0
              rcases hm.bt.2 with ⟨hv, _⟩ | ⟨g, cap, cur, hv, _⟩
              · exact ⟨none, 0, hv, .inl rfl⟩
              · exact ⟨_, cap, hv, .inl rfl⟩
            · obtain ⟨g, cap, hv, _, hgl', hc⟩ := row_get hm.bt h0
              refine ⟨_, cap, by rw [List.length_replicate]; exact hv, .inr ⟨g, 0, rfl, hgl', fun i hi => ?_⟩⟩
              rw [List.length_replicate] at hi
              refine hc i _ ?_
              simp [List.getD, hi]
          have hints : IntsIn wr vq (csK cl j) (fun q => q < wr.heap.size) := by
            obtain ⟨a, c, hv, hc⟩ := ownI_ints hm.at_
            exact ⟨a, c, hv, hc.imp id fun ⟨q, off, e, h1, h2⟩ => ⟨q, off, e, h1.2.2, h2⟩⟩
          have h6 := record_any (w := wr) (w0 := W0) (hm.fr.below (B := W0.heap.size) (fun k h => h.elim) (Nat.le_refl _)) (tabIn_below (hfw.below (B := w.heap.size) (fun k h => h.elim) (Nat.le_refl _)) (tabIn_lt (unhide HTAB)) (unhide HTAB)) hpg 5000 (P := fun q => q < wr.heap.size) (L := fun _ => False) (fun q h => h) (fun q h => h.elim) hints hvals ⟨none, 0, rfl, .inl rfl⟩ ⟨none, 0, rfl, .inl rfl⟩ (fun b hb => by
            obtain ⟨_, rfl⟩ := List.mem_replicate.1 hb
            exact ⟨⟨none, 0, rfl, .inl rfl⟩, by simp⟩) (by rw [csK_length]; omega) (by rw [List.length_replicate]; omega) (by simp) (by simp)
          have hro := recM_ord (atsK raw k) (by rw [atsK_length]; exact hk8) (oAt_range raw k) (csK cl j) (by rw [csK_length]; exact hj40) (upC_csK cl j hj40) (List.replicate j ((Value.slice none 0 0, []) : Value × List Int)) (by rw [List.length_replicate, csK_length]) (fun b hb => by obtain ⟨_, rfl⟩ := List.mem_replicate.1 hb; rfl)
          have H6 := hide h6
          have HRO := hide hro
          have HFW := hide hfw
          have HM := hide hm
          have HJJ := hide hjj
          clear h6 hro hfw hm hpg hvals hints hl1 e2 hlt2 hj hjj
          go_wp2_with fail
          go_at_call 6
          refine (unhide H6).mono ?_
          rintro e w7 ⟨f7, x, hx, hr⟩
          obtain rfl := ord_ans hk8 hx
          rcases hr with ⟨h0, _⟩ | ⟨_, vt, rfl, hrow⟩
          · exact absurd rfl h0
          obtain ⟨r1, r2, r3⟩ := unhide HRO
          rw [r1] at hrow
          simp only [finV, r2, r3]
          generalize recLog _ = lg at *
          generalize hrg : (recM (ordP (atsK raw k)) 5000 (csK cl j) (List.replicate j ((Value.slice none 0 0, []) : Value × List Int)) [] []).1.reg = rg at *
          generalize hck : (recM (ordP (atsK raw k)) 5000 (csK cl j) (List.replicate j ((Value.slice none 0 0, []) : Value × List Int)) [] []).1.clock = ck at *
          generalize hT : ordR (atsK raw k) (csK cl j) (fun _ => true) = T at *
          have HT := hide hT
          have HROW := hide hrow
          have F7 := hide f7
          clear hT hrow f7 hx r1 r2 r3 HRO H6 hrg hck
          have hz7 : w7.heap.size < (w7.alloc (.cells #[.int .i64 T.2.1, .int .i64 (rg 0), .int .i64 (rg 1), .int .i64 (rg 2), .int .i64 (rg 3), .int .i64 ck, .int .i64 T.2.2] 37)).heap.size := by simp
          have f8 := (((unhide HM).fr.trans (unhide F7)).alloc (.cells #[.int .i64 T.2.1, .int .i64 (rg 0), .int .i64 (rg 1), .int .i64 (rg 2), .int .i64 (rg 3), .int .i64 ck, .int .i64 T.2.2] 37))
          have hl8 := (unhide HL).keep f8
          have hm8 := (unhide HM).keep ((unhide F7).alloc (.cells #[.int .i64 T.2.1, .int .i64 (rg 0), .int .i64 (rg 1), .int .i64 (rg 2), .int .i64 (rg 3), .int .i64 ck, .int .i64 T.2.2] 37))
          have hfb := heap_alloc_new w7 (.cells #[.int .i64 T.2.1, .int .i64 (rg 0), .int .i64 (rg 1), .int .i64 (rg 2), .int .i64 (rg 3), .int .i64 ck, .int .i64 T.2.2] 37)
          have hrow8 := ownsRow_of_block (w' := w7.alloc (.cells #[.int .i64 T.2.1, .int .i64 (rg 0), .int .i64 (rg 1), .int .i64 (rg 2), .int .i64 (rg 3), .int .i64 ck, .int .i64 T.2.2] 37)) (unhide HROW) (fun q hq => Below.heap_alloc _ _ _ (World.ownsRow.lt (unhide HROW) q hq).2)
          have HL8 := hide hl8
          have HM8 := hide hm8
          have HFB := hide hfb
          have HR8 := hide hrow8
          clear f8 hl8 hm8 hfb hrow8 HROW
          go_wp2_with fail
          generalize hW8 : w7.alloc (.cells #[.int .i64 T.2.1, .int .i64 (rg 0), .int .i64 (rg 1), .int .i64 (rg 2), .int .i64 (rg 3), .int .i64 ck, .int .i64 T.2.2] 37) = W8 at *
          generalize hats : atsK raw k = ats at *
          generalize hcsd : csK cl j = cs at *
          have halen : ats.length = k := by rw [← hats, atsK_length]
          have hclen : cs.length = j := by rw [← hcsd, csK_length]
          have hat0 : ∀ i, 0 ≤ oAt ats i := fun i => by rw [← hats]; exact (oAt_range raw k i).1
          have hcs0 : ∀ i, i < j → 0 ≤ cs.getD i 0 ∧ cs.getD i 0 ≤ 1000 := fun i hi => by
            rw [← hcsd]
            have := nowK_le cl (i + 1)
            simp only [csK, List.getD]
            rw [List.getElem?_map, List.getElem?_range hi]
            simp
            omega
          have HCS0 := hide hcs0
          have HAT := hide hat0
          clear hcs0 hat0
          have hun : ∀ q, own (.slice a7 k c7) q → q < W0.heap.size := fun q hq => ((unhide HL).ltu hq).2
          have HUN := hide hun
          clear hun hats hcsd
          subst halen
          obtain ⟨aq, cq, hvq⟩ := ownI_len (unhide HM8).at_
          subst hvq
          subst hclen
          generalize wr = W6 at *
          have HW8 := hide hW8
          clear hW8
          go_loopw [16, 17, 18, 19] (fun u16 u17 u18 u19 wq => Rel3 W8 w1.heap.size ats cs T (.slice a7 ats.length c7) u16 u17 u18 u19 wq) (fun _ _ _ i _ => cs.length - (intOf i).toNat)
          case atStart =>
            refine ⟨0, fun _ => true, [], Nat.zero_le _, rfl, rfl, ?_, ⟨⟨rfl, rfl, rfl, Nat.le_refl _, fun _ _ _ => rfl, fun q _ h => h.elim id (fun h => by simp [own, Value.ownBlock] at h)⟩, ?_, World.ownsRow_nil _ _ _ _, fun q hq => Nat.lt_of_lt_of_le (unhide HUN q hq) (unhide HM8).fr.size⟩, by rw [List.drop_zero, unhide HT]; rfl, by rw [List.drop_zero, unhide HT], by rw [List.drop_zero, unhide HT]; simp, by simp⟩
            · have : cnt ats.length (fun _ => true) = ats.length := by unfold cnt; rw [List.filter_eq_self.2 (by simp), List.length_range]
              rw [this]
            · have : atv ats (fun _ => true) = ats := by
                apply List.ext_getElem?
                intro i
                by_cases h : i < ats.length
                · simp [atv, oAt, List.getD, h]
                · rw [List.getElem?_eq_none (by simp [atv]; omega), List.getElem?_eq_none (by omega)]
              rw [this]
              exact (unhide HL8).at_
          case round =>
            obtain ⟨i, al, W, hi, rfl, rfl, rfl, hl3, t1, t2, t3, t4⟩ := hrel
            have hwb : ¬ own (.slice a7 ats.length c7) W0.heap.size := fun h => by have := unhide HUN _ h; omega
            have y0 : wr.cell? ⟨W0.heap.size, 0, none⟩ = some (.slice aq cs.length cq) := (hl3.fr.cell W0.heap.size 0 (unhide HM8).pbn.2 hwb).trans (unhide HM8).c0
            go_upto_region 23 with fail
            go_cut [108] (fun b wc => b = .bool (decide (i < cs.length) && decide (0 < cnt ats.length al)) ∧ wr = wc)
            case first =>
              by_cases h9 : (i : Int) < (cs.length : Int)
              · by_cases h8 : (0 : Int) < (cnt ats.length al : Int)
                · have e1 : decide (i < cs.length) = true := by simp; omega
                  have e2 : decide (0 < cnt ats.length al) = true := by simp; omega
                  go_wp2_with fail
                  go_meet
                  exact ⟨by rw [e1, e2]; rfl, rfl⟩
                · have e2 : decide (0 < cnt ats.length al) = false := by simp; omega
                  go_wp2_with fail
                  go_meet
                  exact ⟨by rw [e2, Bool.and_false], rfl⟩
              · have e1 : decide (i < cs.length) = false := by simp; omega
                go_wp2_with fail
                go_meet
                exact ⟨by rw [e1, Bool.false_and], rfl⟩
            case rest =>
            obtain ⟨rfl, rfl⟩ := hcut
            by_cases hgo : i < cs.length ∧ 0 < cnt ats.length al
            · have eg : (decide (i < cs.length) && decide (0 < cnt ats.length al)) = true := by simp [hgo.1, hgo.2]
              rw [eg]
              obtain ⟨gq, hgq, hq1, hq2, hqc⟩ : ∃ gq, aq = some ⟨gq, 0, none⟩ ∧ W0.heap.size ≤ gq ∧ gq < W8.heap.size ∧ W8.cell? ⟨gq, i, none⟩ = some (.int .i64 (cs.getD i 0)) := by
                obtain ⟨gq, cap, cur, hv, hB, hg, _, _, _, hc⟩ := ownI_parts (unhide HM8).at_ (by omega)
                injection hv with e1 _ _
                exact ⟨gq, e1, hB, (Array.getElem?_eq_some_iff.1 hg).1, hc i hgo.1⟩
              subst hgq
              have hcr := unhide HCS0 i hgo.1
              have hdrop : cs.drop i = cs.getD i 0 :: cs.drop (i + 1) := by
                rw [List.drop_eq_getElem_cons hgo.1]
                simp [List.getD, hgo.1]
              rw [hdrop] at t1 t2 t3
              have hany : anyAl ats.length al = true := by rw [cnt_any]; simp [hgo.2]
              simp only [ordR, hany, if_true] at t1 t2 t3
              have hdl := dueL_length ats hk8 (unhide HAT) al (cs.getD i 0) hcr.1
              generalize cs.getD i 0 = c at *
              have T1 := hide t1
              have T2 := hide t2
              have T3 := hide t3
              have HL3 := hide hl3
              have hw2 : IntKind.i64.wrap (2 * (i : Int) + 2) = 2 * (i : Int) + 2 := by rw [IntKind.wrap_i64]; omega
              clear t1 t2 t3 hl3 hany hdrop
              go_wp2_with fail
              go_loopw [16, 17, 20] (fun u16 u17 u20 wq => Rel4 W8 w1.heap.size ats c al W (.slice a7 ats.length c7) u16 u17 u20 wq) (fun _ _ t _ => c.toNat + 1 - (intOf t).toNat)
              case atStart =>
                refine ⟨0, Nat.zero_le _, rfl, ?_, ?_⟩
                · rw [cnt_congr (al' := al) (fun j _ => alT_zero ats (unhide HAT) al j)]
                · have h := (unhide HL3).congr (al' := alT ats al 0) (fun j _ => (alT_zero ats (unhide HAT) al j).symm)
                  simpa [dueP, evL] using h
              case round =>
                obtain ⟨t, ht, rfl, rfl, hl4⟩ := hrel
                have y0' : wr.cell? ⟨W0.heap.size, 0, none⟩ = some (.slice (some ⟨gq, 0, none⟩) cs.length cq) := (hl4.fr.cell W0.heap.size 0 (unhide HM8).pbn.2 hwb).trans (unhide HM8).c0
                have yq : wr.cell? ⟨gq, i, none⟩ = some (.int .i64 c) := (hl4.fr.cell gq i hq2 (fun h => by have := unhide HUN _ h; omega)).trans hqc
                have ii : (i : Int) < (cs.length : Int) := by omega
                by_cases hle : (t : Int) ≤ c
                · have HL4 := hide hl4
                  clear hl4
                  go_wp2_with fail
                  go_loopw [16, 17, 21] (fun u16 u17 u21 wq => Rel5 W8 w1.heap.size ats t al W (.slice a7 ats.length c7) u16 u17 u21 wq) (fun _ _ q _ => ats.length - (intOf q).toNat)
                  case atStart =>
                    refine ⟨0, Nat.zero_le _, rfl, ?_, ?_⟩
                    · rw [cnt_congr (al' := alT ats al t) (fun j _ => alQ_zero ats al t j)]
                    · have h := (unhide HL4).congr (al' := alQ ats al t 0) (fun j _ => (alQ_zero ats al t j).symm)
                      simpa [dueQ] using h
                  case round =>
                    obtain ⟨kk, hkk5, rfl, rfl, hl5⟩ := hrel
                    by_cases hlt5 : kk < ats.length
                    · obtain ⟨g7, hg7, hf7, hc7⟩ : ∃ g7, a7 = some ⟨g7, 0, none⟩ ∧ wr.frozen? ⟨g7, kk, none⟩ = false ∧ wr.cell? ⟨g7, kk, none⟩ = some (.int .i64 (if alQ ats al t kk kk then oAt ats kk else -1)) := by
                        obtain ⟨g, cap, cur, hv, hB, hg, _, _, _, hc⟩ := ownI_parts hl5.at_ (by rw [atv_length]; omega)
                        injection hv with e1 _ _
                        refine ⟨g, e1, frozen_rowE hg kk, ?_⟩
                        rw [hc kk (by rw [atv_length]; exact hlt5), atv_get ats _ kk hlt5]
                      subst hg7
                      have hhit := alQ_hit ats (unhide HAT) al t kk
                      have hlq := (dueP_succ ats al t)
                      have i5 : (kk : Int) < (ats.length : Int) := by omega
                      have i50 : (0 : Int) ≤ (kk : Int) := by omega
                      have HQS := hide (dueQ_succ ats al t kk)
                      cases hb : (al kk && decide (oAt ats kk = (t : Int)))
                      · rw [hb] at hhit
                        generalize (if alQ ats al t kk kk then oAt ats kk else -1) = av at *
                        have HL5 := hide hl5
                        have HB := hide hb
                        clear hl5 hb hlq
                        go_wp2_with fail
                        go_roundw
                        case rel =>
                          refine ⟨kk + 1, by omega, by go_num, ?_, ?_⟩
                          · rw [cnt_congr (fun j _ => alQ_miss ats al t kk j (unhide HB))]
                          · rw [unhide HQS, unhide HB]
                            simpa using (unhide HL5).congr (fun j _ => (alQ_miss ats al t kk j (unhide HB)).symm)
                        case measure => simp [intOf]; omega
                      · rw [hb] at hhit
                        obtain ⟨hq1', hq2'⟩ := alQ_true ats al t kk hb
                        have hcnt := cnt_off ats.length kk (alQ ats al t kk) hlt5 hq1'
                        rw [cnt_congr (al' := alQ ats al t (kk + 1)) (fun j _ => alQ_off ats al t kk j hq2')] at hcnt
                        have hcw : IntKind.i64.wrap ((cnt ats.length (alQ ats al t kk) : Int) - 1) = (cnt ats.length (alQ ats al t (kk + 1)) : Int) := by
                          have hcl : cnt ats.length (alQ ats al t (kk + 1)) ≤ ats.length := by
                            unfold cnt
                            exact Nat.le_trans (List.length_filter_le _ _) (by simp)
                          rw [IntKind.wrap_i64, hcnt]
                          omega
                        generalize (if alQ ats al t kk kk then oAt ats kk else -1) = av at *
                        have hlen5 : (W ++ evL (dueP ats al t ++ dueQ ats al t kk)).length + 2 ≤ 1000000 := by
                          rw [List.length_append, evL_length, List.length_append]
                          have h1 := dueP_length ats hk8 al t
                          have h2 := dueQ_length ats al t kk
                          omega
                        have HW5 := hide (show W ++ evL (dueP ats al t ++ dueQ ats al t (kk + 1)) = (W ++ evL (dueP ats al t ++ dueQ ats al t kk)) ++ [(1, (kk : Int), 0), (3, 1, 0)] by
                          rw [unhide HQS, hb, if_pos rfl, ← List.append_assoc, evL_append _ [kk], ← List.append_assoc]; rfl)
                        generalize W ++ evL (dueP ats al t ++ dueQ ats al t kk) = Wl at *
                        have hla5 := hl5.keep ((Fr.refl _ _).alloc (.cells #[.int .i64 1, .int .i64 kk, .int .i64 0, .int .i64 3, .int .i64 1, .int .i64 0] 42))
                        have HLA5 := hide hla5
                        have hsz5 := hl5.fr.size
                        clear hl5 hla5 hb hlq hcnt
                        go_wp2_with (at_builtin; refine wpList_grow elemE (by omega) (by omega) (B := W8.heap.size) (n := Wl.length) (m := 2) (xs := flatE Wl) (news := flatE [(1, (kk : Int), 0), (3, 1, 0)]) rfl (.tmp 134) (.tmp 138) rfl (ad := ⟨wr.heap.size, 0, none⟩) (cap := 2) rfl rfl (unhide HLA5).wn rfl (World.news_of_block (heap_alloc_new wr _)) (by simp [flatE, Value.oneCell']) (by omega) hlen5 (by simp; omega) ?_
                                     intro v9 w9 o9 f9 sh9
                                     obtain ⟨a9, c9, rfl⟩ := sh9
                                     have hl9 := (unhide HLA5).event (V := Wl ++ [(1, (kk : Int), 0), (3, 1, 0)]) (by rw [List.length_append, flatE_append]; exact o9) f9
                                     obtain ⟨s1, s2⟩ := ownI_at hl9.at_ kk (by rw [atv_length]; exact hlt5)
                                     have HL9 := hide (hl9.kill kk hlt5)
                                     clear o9 f9 hl9)
                        go_roundw
                        case rel =>
                          refine ⟨kk + 1, by omega, by go_num, rfl, ?_⟩
                          rw [unhide HW5]
                          exact (unhide HL9).congr (fun j _ => alQ_off ats al t kk j hq2')
                        case measure => simp [intOf]; omega
                    · have hke : kk = ats.length := by omega
                      have HL5 := hide hl5
                      clear hl5
                      go_wp2_with fail
                      go_roundw
                      case rel =>
                        subst hke
                        refine ⟨t + 1, by omega, by go_num, ?_, ?_⟩
                        · rw [cnt_congr (fun j hj => alQ_all ats al t j hj)]
                        · rw [dueP_succ]
                          exact (unhide HL5).congr (fun j hj => alQ_all ats al t j hj)
                      case measure => simp [intOf]; omega
                · have htc : t = c.toNat + 1 := by omega
                  have HL4 := hide hl4
                  clear hl4
                  go_wp2_with fail
                  go_roundw
                  case rel =>
                    subst htc
                    refine ⟨i + 1, offL ats al c, W ++ evL (dueL ats al c), by omega, by go_num, by congr 1, ?_, ?_, ?_, ?_, ?_, ?_⟩
                    · rw [cnt_congr (fun j _ => alT_off ats al c hcr.1 j)]
                    · exact (unhide HL4).congr (fun j _ => alT_off ats al c hcr.1 j)
                    · rw [List.append_assoc]; exact unhide T1
                    · exact unhide T2
                    · have := unhide T3; omega
                    · rw [List.length_append, evL_length]; omega
                  case measure => simp [intOf]; omega
            · have eg : (decide (i < cs.length) && decide (0 < cnt ats.length al)) = false := by
                rw [Bool.eq_false_iff]
                intro h
                simp only [Bool.and_eq_true, decide_eq_true_eq] at h
                exact hgo h
              rw [eg]
              have hord : ordR ats (cs.drop i) al = ([], if 0 < cnt ats.length al then 5 else 2, 0) := by
                by_cases hc : 0 < cnt ats.length al
                · have hi' : cs.length ≤ i := by
                    rcases Nat.lt_or_ge i cs.length with h | h
                    · exact absurd ⟨h, hc⟩ hgo
                    · exact h
                  rw [List.drop_eq_nil_of_le hi', if_pos hc]
                  simp [ordR, cnt_any, hc]
                · rw [if_neg hc]
                  cases cs.drop i <;> simp [ordR, cnt_any, hc]
              rw [hord] at t1 t2 t3
              simp only [List.append_nil, Int.add_zero] at t1 t2 t3
              have hvo : ∀ q, own vt q → ¬ own (.slice a7 ats.length c7) q := fun q hq h => by
                have h1 := (World.ownsRow.lt (unhide HR8) q hq).1
                have h2 := unhide HUN q h
                have h3 := (unhide HM).fr.size
                omega
              have hrw := ownsRow_of_block (w' := wr) (unhide HR8) (fun q hq => hl3.fr.same q (World.ownsRow.lt (unhide HR8) q hq).2 (hvo q hq))
              have hlT : T.1.length * 24 ≤ 140737488351232 := by rw [← t1]; omega
              have ho1 := row_ops' hrw hlT
              have ho2 := row_ops' hl3.wn (by omega)
              rw [t1] at ho2
              have H7 := hide (fun W h1 h2 => sameEvents_any T.1.length vt u16 (fun i => T.1.getD i (0, 0, 0)) W h1 h2)
              have H71 := hide ho1
              have H72 := hide ho2
              have hw7 : ¬ own (.slice a7 ats.length c7) w7.heap.size := fun h => by
                have h2 := unhide HUN _ h
                have h3 := (unhide HM).fr.size
                have h4 := (unhide F7).size
                omega
              have hw78 : w7.heap.size < W8.heap.size := (Array.getElem?_eq_some_iff.1 (unhide HFB)).1
              have hfb9 := (hl3.fr.same w7.heap.size hw78 hw7).trans (unhide HFB)
              have z0 : wr.cell? ⟨w7.heap.size, 0, none⟩ = some (.int .i64 T.2.1) := cell_of_row _ _ 0 _ 37 (0, 0) hfb9
              have z6 : wr.cell? ⟨w7.heap.size, 6, none⟩ = some (.int .i64 T.2.2) := cell_of_row _ _ 6 _ 37 (0, 0) hfb9
              rw [← t2] at z0
              rw [← t3] at z6
              have hfin : Fr (fun _ => False) w wr (fun _ => False) := by
                have hA : Fr (fun _ => False) w W8 (fun _ => False) := by rw [← unhide HW8]; exact ((unhide HFW).trans (unhide F7)).alloc _
                exact hA.fresh hl3.fr (fun q hq => Nat.le_trans (unhide F1).size ((unhide HL).ltu hq).1)
              have HFN := hide hfin
              clear hord t1 t2 t3 hl3 hvo hrw hlT ho1 ho2 hfb9 hfin t4 y0 hgo eg
              by_cases hc : (cnt ats.length al : Int) = 0
              · have hc0 : ¬ 0 < cnt ats.length al := by omega
                rw [if_neg hc0] at z0
                have hcb : ((cnt ats.length al : Int) == 0) = true := by simpa using hc
                go_wp2_with (go_at_call 7; refine (unhide H7 _ (unhide H71) (unhide H72)).mono ?_; rintro e w9 ⟨rfl, hd⟩; have z0' := (hd.cell _).trans z0; have z6' := (hd.cell _).trans z6; have HD := hide hd; clear hd)
                go_ret
                obtain ⟨m, rfl⟩ := unhide HD
                exact ⟨rfl, (unhide HFN).drewN m⟩
              · have hc0 : 0 < cnt ats.length al := by omega
                rw [if_pos hc0] at z0
                have hcb : ((cnt ats.length al : Int) == 0) = false := by simpa using hc
                go_wp2_with (go_at_call 7; refine (unhide H7 _ (unhide H71) (unhide H72)).mono ?_; rintro e w9 ⟨rfl, hd⟩; have z0' := (hd.cell _).trans z0; have z6' := (hd.cell _).trans z6; have HD := hide hd; clear hd)
                go_ret
                obtain ⟨m, rfl⟩ := unhide HD
                exact ⟨rfl, (unhide HFN).drewN m⟩
end Go.Proofs.YtfmbebofllgmoaaDoor
