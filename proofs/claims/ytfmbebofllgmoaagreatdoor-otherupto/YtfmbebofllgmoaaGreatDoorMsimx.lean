/-
  PROVED HERE: other handlers, by a log that was not made with them: what they tell is what a world makes of them that has just what was heard.
-/
import Derived.Test.YtfmbebofllgmoaaGreatDoorMsims
namespace Go.Proofs.YtfmbebofllgmoaaGreatDoor
open Go.RowKit

theorem risL_sorted : ∀ (l : List Int) (last : Int), risL last l = true → l.Pairwise (· < ·) ∧ ∀ z, z ∈ l → last < z ∧ z < 8
  | [], _, _ => ⟨List.Pairwise.nil, fun _ h => absurd h (by simp)⟩
  | a :: t, last, h => by
    simp only [risL] at h
    by_cases hc : a ≤ last ∨ 8 ≤ a
    · rw [if_pos hc] at h; cases h
    · rw [if_neg hc] at h
      obtain ⟨h1, h2⟩ := risL_sorted t a h
      refine ⟨List.pairwise_cons.2 ⟨fun z hz => (h2 z hz).1, h1⟩, fun z hz => ?_⟩
      rcases List.mem_cons.1 hz with rfl | hz
      · omega
      · have := h2 z hz; omega
theorem ext_sorted : ∀ (a b : List Int), a.Pairwise (· < ·) → b.Pairwise (· < ·) → (∀ z, z ∈ a ↔ z ∈ b) → a = b
  | [], [], _, _, _ => rfl
  | [], y :: b, _, _, h => absurd ((h y).2 (List.mem_cons_self ..)) (by simp)
  | x :: a, [], _, _, h => absurd ((h x).1 (List.mem_cons_self ..)) (by simp)
  | x :: a, y :: b, ha, hb, h => by
    obtain ⟨a1, a2⟩ := List.pairwise_cons.1 ha
    obtain ⟨b1, b2⟩ := List.pairwise_cons.1 hb
    have e : x = y := by
      rcases List.mem_cons.1 ((h x).1 (List.mem_cons_self ..)) with e | e
      · exact e
      · rcases List.mem_cons.1 ((h y).2 (List.mem_cons_self ..)) with e' | e'
        · exact e'.symm
        · have h1 := b1 x e; have h2 := a1 y e'; omega
    subst e
    rw [ext_sorted a b a2 b2 (fun z => ?_)]
    constructor
    · intro hz
      rcases List.mem_cons.1 ((h z).1 (List.mem_cons_of_mem _ hz)) with e | e
      · have := a1 z hz; omega
      · exact e
    · intro hz
      rcases List.mem_cons.1 ((h z).2 (List.mem_cons_of_mem _ hz)) with e | e
      · have := b1 z hz; omega
      · exact e
theorem filesL_same (l : List Int) (h : risL (-1) l = true) : filesL l = l := by
  obtain ⟨h1, h2⟩ := risL_sorted l (-1) h
  obtain ⟨g1, _⟩ := risL_sorted (filesL l) (-1) (filesL_ris l)
  refine ext_sorted _ _ g1 h1 (fun z => ?_)
  unfold filesL filesK
  rw [List.mem_map]
  constructor
  · rintro ⟨j, hj, rfl⟩
    have := (List.mem_filter.1 hj).2
    unfold namedB at this
    exact List.contains_iff_mem.1 this
  · intro hz
    have hb := h2 z hz
    refine ⟨z.toNat, List.mem_filter.2 ⟨List.mem_range.2 (by omega), ?_⟩, by omega⟩
    unfold namedB
    rw [Int.toNat_of_nonneg (by omega)]
    exact List.contains_iff_mem.2 hz

/-- What a list of inputs has of each kind. -/
def clocksOf (H : List Inp) : List Int := (H.filter fun i => i.1 == 1).map fun i => (i.2.2.1 : Int)
def filesOf (H : List Inp) : List (List Int) := (H.filter fun i => i.1 == 2).map fun i => zs i.2.2.2
def picksOf (H : List Inp) : List Int := (H.filter fun i => i.1 == 3).map fun i => (i.2.2.1 : Int)
def lotsOf (H : List Inp) : List Int := (H.filter fun i => i.1 == 4).map fun i => (i.2.2.1 : Int)
/-- A world that has just these inputs. -/
structure WorldOf (H : List Inp) (z : RS) : Prop where
  clocks : z.clocks = clocksOf H
  batches : z.batches.map (·.2) = filesOf H
  picks : z.picks = picksOf H
  lots : z.lots = lotsOf H
theorem filt_other {i : Inp} {r : List Inp} {k : Nat} (h : i.1 ≠ k) : ((i :: r).filter fun i => i.1 == k) = r.filter fun i => i.1 == k := by
  rw [List.filter_cons_of_neg (by simpa using h)]
theorem filt_same {i : Inp} {r : List Inp} {k : Nat} (h : i.1 = k) : ((i :: r).filter fun i => i.1 == k) = i :: r.filter fun i => i.1 == k := by
  rw [List.filter_cons_of_pos (by simpa using h)]
/-- The recorder over such a world answers the next of them. -/
theorem rec_of {i : Inp} {r : List Inp} {z : RS} {k o : Int} (hm : mayR k o) (hi : Fit i) (hk : (i.1 : Int) = k) (ho : (i.2.1 : Int) = o) (hw : WorldOf (i :: r) z) : (recAsk z k o).1 = inpR i ∧ WorldOf r (recAsk z k o).2 := by
  obtain ⟨ik, io, inn, ifs⟩ := i
  simp only at hk ho
  obtain ⟨w1, w2, w3, w4⟩ := hw
  rcases hm with ⟨rfl, rfl⟩ | ⟨rfl, rfl⟩ | ⟨rfl, h2, h8⟩ | ⟨rfl, h1, hM⟩
  · have hk' : ik = 1 := by omega
    subst hk'
    unfold clocksOf at w1
    rw [filt_same (k := 1) rfl, List.map_cons] at w1
    unfold filesOf at w2
    rw [filt_other (by simp)] at w2
    unfold picksOf at w3
    rw [filt_other (by simp)] at w3
    unfold lotsOf at w4
    rw [filt_other (by simp)] at w4
    rcases hi with hi | hi | hi | hi | hi
    · obtain ⟨_, e1, e2, e3⟩ := hi
      simp only at e1 e2 e3
      subst e1 e3
      have hc : clampC (inn : Int) = inn := by unfold clampC; omega
      simp only [recAsk, if_true, w1]
      refine ⟨?_, ⟨rfl, w2, w3, w4⟩⟩
      rw [hc]; rfl
    all_goals (have := hi.1; simp at this)
  · have hk' : ik = 2 := by omega
    subst hk'
    unfold clocksOf at w1
    rw [filt_other (by simp)] at w1
    unfold filesOf at w2
    rw [filt_same (k := 2) rfl, List.map_cons] at w2
    unfold picksOf at w3
    rw [filt_other (by simp)] at w3
    unfold lotsOf at w4
    rw [filt_other (by simp)] at w4
    rcases hi with hi | hi | hi | hi | hi
    · have := hi.1; simp at this
    · obtain ⟨_, e1, e2, e3⟩ := hi
      simp only at e1 e2 e3
      subst e1 e2
      have e1 : ¬ (2 : Int) = 1 := by omega
      cases hb : z.batches with
      | nil => rw [hb] at w2; cases w2
      | cons b bt =>
        rw [hb, List.map_cons] at w2
        injection w2 with q1 q2
        simp only [recAsk, e1, if_false, if_true, hb]
        refine ⟨?_, ⟨w1, q2, w3, w4⟩⟩
        rw [q1, filesL_same _ e3]; rfl
    all_goals (have := hi.1; simp at this)
  · have hk' : ik = 3 := by omega
    subst hk'
    unfold clocksOf at w1
    rw [filt_other (by simp)] at w1
    unfold filesOf at w2
    rw [filt_other (by simp)] at w2
    unfold picksOf at w3
    rw [filt_same (k := 3) rfl, List.map_cons] at w3
    unfold lotsOf at w4
    rw [filt_other (by simp)] at w4
    rcases hi with hi | hi | hi | hi | hi
    · have := hi.1; simp at this
    · have := hi.1; simp at this
    · obtain ⟨_, e1, e2, e3, e4⟩ := hi
      simp only at e1 e2 e3 e4
      subst e4
      have c1 : ¬ (3 : Int) = 1 := by omega
      have c2 : ¬ (3 : Int) = 2 := by omega
      simp only [recAsk, c1, c2, if_false, if_true, w3]
      refine ⟨?_, ⟨w1, w2, rfl, w4⟩⟩
      rw [← ho, Int.emod_eq_of_lt (by omega) (by omega)]; rfl
    all_goals (have := hi.1; simp at this)
  · have hk' : ik = 4 := by omega
    subst hk'
    unfold clocksOf at w1
    rw [filt_other (by simp)] at w1
    unfold filesOf at w2
    rw [filt_other (by simp)] at w2
    unfold picksOf at w3
    rw [filt_other (by simp)] at w3
    unfold lotsOf at w4
    rw [filt_same (k := 4) rfl, List.map_cons] at w4
    rcases hi with hi | hi | hi | hi | hi
    · have := hi.1; simp at this
    · have := hi.1; simp at this
    · have := hi.1; simp at this
    · obtain ⟨_, e1, e2, e3, e4⟩ := hi
      simp only at e1 e2 e3 e4
      subst e4
      have c1 : ¬ (4 : Int) = 1 := by omega
      have c2 : ¬ (4 : Int) = 2 := by omega
      have c3 : ¬ (4 : Int) = 3 := by omega
      simp only [recAsk, c1, c2, c3, if_false, w4]
      refine ⟨?_, ⟨w1, w2, w3, rfl⟩⟩
      rw [← ho, Int.emod_eq_of_lt (by omega) (by omega)]; rfl
    · have := hi.1; simp at this
theorem rec_empty {z : RS} (hw : WorldOf [] z) (k o : Int) : (recAsk z k o).1 = noRep := by
  obtain ⟨w1, w2, w3, w4⟩ := hw
  have e1 : z.clocks = [] := w1
  have e2 : z.batches = [] := List.map_eq_nil_iff.1 w2
  have e3 : z.picks = [] := w3
  have e4 : z.lots = [] := w4
  unfold recAsk
  rw [e1, e2, e3, e4]
  split
  · rfl
  · split
    · rfl
    · split <;> rfl
theorem inpOf_inpR (i : Inp) : inpOf (inpR i) = i := by
  obtain ⟨k, o, n, fs⟩ := i
  show (((k : Int).toNat, (o : Int).toNat, (n : Int).toNat, (zs fs).map Int.toNat) : Inp) = _
  rw [Int.toNat_natCast, Int.toNat_natCast, Int.toNat_natCast]
  have : (zs fs).map Int.toNat = fs := by
    unfold zs
    rw [List.map_map]
    have : (Int.toNat ∘ Int.ofNat) = id := by funext x; rfl
    rw [this, List.map_id]
  rw [this]

/-- What a replay has heard, kept beside it. -/
theorem rep_run {q : Pg} (hq : PgOk q) (f : Int) (y : VL) (hy : y.1.length ≤ 50000000) : ∃ n k0 g, n ≤ y.1.length ∧ (repM q f y).1.heard = n ∧ (∀ k, k0 ≤ k → runM (gAsk repAsk) q k f ⟨y, [], false⟩ = ((repM q f y).1, g)) ∧ g.l = y.1.take n ∧ (g.z = true → (repM q f y).1.fin ≠ 0) := by
  obtain ⟨g, hrun, hx, ⟨hI1, hI2⟩, hz⟩ := ghost_run mayR_ok repAsk_ok.most hq (I := fun h a => h = (a.l.length : Int) ∧ (a.l <+: y.1 ∧ (a.z = false → a.l ++ a.x.1 = y.1))) (E := fun e => e ≠ 0) (x := y) ⟨rfl, List.nil_prefix, fun _ => rfl⟩
    (fun h a k o _ hz hi he => by
      obtain ⟨h1, h2, h3⟩ := hi
      have h3 := h3 hz
      obtain ⟨i, r, e, e2, _, _⟩ := repR_zero (l := a.x.1) he
      have hin : inpOf (repAsk a.x k o).1 = i := by show inpOf (repR a.x.1 k o) = i; rw [e2, inpOf_inpR]
      have hl : a.l.length + 1 ≤ y.1.length := by rw [← h3, e, List.length_append, List.length_cons]; omega
      have h4 : (a.l ++ [i]) ++ r = y.1 := by rw [← h3, e]; simp
      refine ⟨?_, ?_, fun _ => ?_⟩
      · show wrap64 (h + 1) = ((a.l ++ [inpOf (repAsk a.x k o).1]).length : Int)
        rw [h1, wrap_succ _ (by omega), List.length_append]; rfl
      · show a.l ++ [inpOf (repAsk a.x k o).1] <+: y.1
        rw [hin]; exact ⟨r, h4⟩
      · show (a.l ++ [inpOf (repAsk a.x k o).1]) ++ a.x.1.tail = y.1
        rw [hin, e]; exact h4)
    (fun h a k o _ _ hi he => ⟨⟨hi.1, hi.2.1, fun h => by cases h⟩, he⟩) (y.1.length + 1) f
  have hmore := runM_more (gAsk_ok repAsk_ok) q f ⟨y, [], false⟩ (y.1.length + 1) (Nat.lt_succ_self _)
  refine ⟨g.l.length, y.1.length + 1, g, hI2.1.length_le, hI1, fun k hk => by rw [hmore.2 k hk, hrun]; rfl, ?_, hz⟩
  obtain ⟨r, hr⟩ := hI2.1
  rw [← hr, List.take_left]

/-- Other handlers. -/
theorem rep_other {q : Pg} (hq : PgOk q) (f : Int) (y : VL) (hy : y.1.length ≤ 50000000) : ∃ n : Nat, n ≤ y.1.length ∧ (repM q f y).1.heard = n ∧ ∀ (lc : List Int) (bt : List (Value × List Int)) (lp ll : List Int), WorldOf (y.1.take n) ⟨lc, bt, lp, ll, headS⟩ →
    (recM q f lc bt lp ll).1 = (repM q f y).1 ∨ ((repM q f y).1.fin = 6 ∧ (recM q f lc bt lp ll).1 = { (repM q f y).1 with fin := 5 }) := by
  obtain ⟨n, k0, g, hn, hh, hg, hl, _⟩ := rep_run hq f y hy
  refine ⟨n, hn, hh, fun lc bt lp ll hw => ?_⟩
  have A : Alike (gAsk repAsk) recAsk mayR (Upto (y.1.take n) True) (fun _ a b => a.z = false ∧ ∃ r, y.1.take n = a.l ++ r ∧ WorldOf r b) (fun _ _ _ _ => True) (fun s t => s.fin = 6 ∧ t = { s with fin := 5 }) := by
    refine ⟨fun a k o => upto_back a k o, ?_, fun s1 s2 t h h0 => by have := h.1; omega⟩
    rintro t a b k o hm ⟨ha, r, hr, hwb⟩ hG
    by_cases he : (repAsk a.x k o).1.e = 0
    · rw [gAsk_zero ha he] at hG ⊢
      obtain ⟨i, r2, e, e2, hk, ho⟩ := repR_zero (l := a.x.1) he
      have hin : inpOf (repAsk a.x k o).1 = i := by show inpOf (repR a.x.1 k o) = i; rw [e2, inpOf_inpR]
      have hfi : Fit i := a.x.2 i (by rw [e]; exact List.mem_cons_self ..)
      obtain ⟨r3, hr3⟩ := hG.1
      have hr3' : a.l ++ [i] ++ r3 = y.1.take n := by rw [← hin]; exact hr3
      have er : r = i :: r3 := by
        rw [hr, List.append_assoc] at hr3'
        exact (List.append_cancel_left hr3').symm
      rw [er] at hwb
      obtain ⟨q1, q2⟩ := rec_of hm hfi hk ho hwb
      refine .inl ⟨?_, fun _ => ⟨rfl, r3, ?_, q2⟩, fun h' => absurd he h'⟩
      · rw [q1]; exact e2
      · show y.1.take n = a.l ++ [inpOf (repAsk a.x k o).1] ++ r3
        rw [hin, hr3']
    · rw [gAsk_end ha he] at hG ⊢
      have e1 : a.l = y.1.take n := (hG.2 rfl).1
      have er : r = [] := by
        rw [← e1] at hr
        exact List.self_eq_append_right.1 hr
      rw [er] at hwb
      have hno := rec_empty hwb k o
      rcases repR_end a.x.1 k o with h0 | h0 | h0
      · exact absurd h0 he
      · refine .inl ⟨by rw [hno]; exact h0, fun h' => absurd h' he, fun _ => trivial⟩
      · refine .inr ⟨by rw [hno]; simp [noRep], fun s _ _ => ⟨fun _ => ?_, fun h' => absurd h' he⟩⟩
        have h6 : (repAsk a.x k o).1.e = 6 := by show (repR a.x.1 k o).e = 6; rw [h0]; rfl
        rw [hno]
        exact ⟨h6, rfl⟩
  have hk := runM_more recAsk_ok q f (⟨lc, bt, lp, ll, headS⟩ : RS) (lc.length + 1) (Nat.lt_succ_self _)
  have e1 := hg (k0 + (lc.length + 1)) (by omega)
  have e2 := hk.2 (k0 + (lc.length + 1)) (by omega)
  have hsim := runM_sim A mayR_ok (gAsk_most repAsk_ok.most) hq (k0 + (lc.length + 1)) f (x := ⟨y, [], false⟩) (y := (⟨lc, bt, lp, ll, headS⟩ : RS)) ⟨rfl, _, rfl, hw⟩ (by
    rw [e1]; exact ⟨by show g.l <+: _; rw [hl]; exact List.prefix_refl _, fun _ => ⟨hl, trivial⟩⟩)
  rw [e1, e2] at hsim
  change Rl _ _ _ ((repM q f y).1, g) (recM q f lc bt lp ll) at hsim
  rcases hsim with ⟨es, _⟩ | ⟨_, hP1, hP2⟩
  · exact .inl es.symm
  · exact .inr ⟨hP1, hP2⟩
end Go.Proofs.YtfmbebofllgmoaaGreatDoor
