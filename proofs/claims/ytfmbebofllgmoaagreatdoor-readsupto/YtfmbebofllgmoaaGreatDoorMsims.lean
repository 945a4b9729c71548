/-
  PROVED HERE: two runs of one program over two sources that answer alike go alike; where the second source ends the run, what was told so far is a beginning of what the first run tells. two runs of one program over two sources that answer alike go alike; where the second source ends the run, what was told so far is a beginning of what the first run tells. a source of inputs of a log (the model of a replay), and what a run has heard, kept beside it. a run that was recorded is had again by the model of a replay; of the first inputs comes the beginning; other handlers do what a world makes of them that has just what was heard.
-/
import Derived.Test.YtfmbebofllgmoaaGreatDoorMloopb
import Derived.Test.YtfmbebofllgmoaaGreatDoorMread
import Derived.Test.YtfmbebofllgmoaaGreatDoorMrec
namespace Go.Proofs.YtfmbebofllgmoaaGreatDoor
open Go.RowKit Go.Sort

section
variable {σ : Type} {ask : σ → Int → Int → Rep × σ}

/-- An operation that hears nothing. -/
theorem opM_plain (o : O3) (s : PS) (h7 : o.1 ≠ 7) (h8 : o.1 ≠ 8) : ∃ s' : PS, s'.heard = s.heard ∧ s.trace <+: s'.trace ∧ ∀ (σ : Type) (ask : σ → Int → Int → Rep × σ) (x : σ), opM ask o s x = (s', x) := by
  by_cases h1 : o.1 = 1
  · exact ⟨{ s with reg := upd s.reg o.2.1.toNat o.2.2 }, rfl, List.prefix_refl _, fun σ ask x => by unfold opM; rw [if_pos h1]⟩
  by_cases h2 : o.1 = 2
  · exact ⟨{ s with reg := upd s.reg o.2.1.toNat (wrap64 (s.reg o.2.1.toNat + s.reg o.2.2.toNat)) }, rfl, List.prefix_refl _, fun σ ask x => by unfold opM; rw [if_neg h1, if_pos h2]⟩
  by_cases h3 : o.1 = 3
  · exact ⟨{ s with armings := s.armings + 1, tim := upd s.tim o.2.1.toNat (true, s.clock + min (max (s.reg o.2.2.toNat) 0) (1099511627776 - s.clock), s.armings + 1, o.2.1) }, rfl, List.prefix_refl _, fun σ ask x => by unfold opM; rw [if_neg h1, if_neg h2, if_pos h3]⟩
  by_cases h4 : o.1 = 4
  · exact ⟨{ s with tim := upd s.tim o.2.1.toNat (false, (s.tim o.2.1.toNat).2) }, rfl, List.prefix_refl _, fun σ ask x => by unfold opM; rw [if_neg h1, if_neg h2, if_neg h3, if_pos h4]⟩
  by_cases h5 : o.1 = 5
  · exact ⟨{ s with wat := upd s.wat o.2.1.toNat true }, rfl, List.prefix_refl _, fun σ ask x => by unfold opM; rw [if_neg h1, if_neg h2, if_neg h3, if_neg h4, if_pos h5]⟩
  by_cases h6 : o.1 = 6
  · exact ⟨{ s with wat := upd s.wat o.2.1.toNat false }, rfl, List.prefix_refl _, fun σ ask x => by unfold opM; rw [if_neg h1, if_neg h2, if_neg h3, if_neg h4, if_neg h5, if_pos h6]⟩
  by_cases h9 : o.1 = 9
  · exact ⟨{ s with trace := s.trace ++ [(3, o.2.1, s.reg o.2.1.toNat)] }, rfl, List.prefix_append _ _, fun σ ask x => by unfold opM; rw [if_neg h1, if_neg h2, if_neg h3, if_neg h4, if_neg h5, if_neg h6, if_neg h7, if_neg h8, if_pos h9]⟩
  by_cases h10 : o.1 = 10
  · refine ⟨if s.reg o.2.1.toNat = o.2.2 then { s with next := s.next + 1 } else s, ?_, ?_, fun σ ask x => by unfold opM; rw [if_neg h1, if_neg h2, if_neg h3, if_neg h4, if_neg h5, if_neg h6, if_neg h7, if_neg h8, if_neg h9, if_pos h10]⟩
    · split <;> rfl
    · split <;> exact List.prefix_refl _
  · exact ⟨{ s with fin := 1 }, rfl, List.prefix_refl _, fun σ ask x => by unfold opM; rw [if_neg h1, if_neg h2, if_neg h3, if_neg h4, if_neg h5, if_neg h6, if_neg h7, if_neg h8, if_neg h9, if_neg h10]⟩

/-- What the operation Now makes of an answer. -/
def nowS (s : PS) (i : Nat) (R : Rep) : PS := if ckB s R then { ckS s R with reg := upd (ckS s R).reg i (ckS s R).clock } else ckS s R
theorem opM_now (o : O3) (s : PS) (x : σ) (h : o.1 = 7) : opM ask o s x = (nowS s o.2.1.toNat (ask x 1 0).1, (ask x 1 0).2) := by
  unfold opM nowS; rw [h]; simp
theorem opM_lot (o : O3) (s : PS) (x : σ) (h : o.1 = 8) : opM ask o s x = (lotS s (ask x 4 o.2.2).1 o.2.1.toNat, (ask x 4 o.2.2).2) := by
  unfold opM; rw [h]; simp

/-- What an answer does to the state: an end is set, or one more is heard. -/
structure Takes (s : PS) (A : Rep → PS) : Prop where
  stop : ∀ R, R.e ≠ 0 → A R = { s with fin := R.e }
  heard : ∀ R, R.e = 0 → (A R).heard = wrap64 (s.heard + 1)
  trace : ∀ R, (A R).trace = s.trace
theorem takes_ck (s : PS) : Takes s (ckS s) := by
  refine ⟨fun R h => ?_, fun R h => ?_, fun R => ?_⟩
  · unfold ckS; rw [if_neg h]
  · unfold ckS; rw [if_pos h]; split <;> rfl
  · unfold ckS; split
    · split <;> rfl
    · rfl
theorem takes_now (s : PS) (i : Nat) : Takes s (nowS s i) := by
  have h0 := takes_ck s
  refine ⟨fun R h => ?_, fun R h => ?_, fun R => ?_⟩
  · have : ckB s R = false := by unfold ckB; simp [h]
    unfold nowS; rw [this]; exact h0.stop R h
  · unfold nowS; split
    · exact h0.heard R h
    · exact h0.heard R h
  · unfold nowS; split
    · exact h0.trace R
    · exact h0.trace R
theorem takes_lot (s : PS) (i : Nat) : Takes s (fun R => lotS s R i) := by
  refine ⟨fun R h => ?_, fun R h => ?_, fun R => ?_⟩
  · simp only [lotS]; rw [if_neg h]
  · simp only [lotS]; rw [if_pos h]
  · simp only [lotS]; split <;> rfl

/-! ### The trace only grows; a run that has ended stays -/
theorem opM_tr (o : O3) (s : PS) (x : σ) : s.trace <+: (opM ask o s x).1.trace := by
  by_cases h7 : o.1 = 7
  · rw [opM_now o s x h7]; exact ((takes_now s _).trace _) ▸ List.prefix_refl _
  by_cases h8 : o.1 = 8
  · rw [opM_lot o s x h8]; exact ((takes_lot s _).trace _) ▸ List.prefix_refl _
  obtain ⟨s', _, h, e⟩ := opM_plain o s h7 h8
  rw [e]; exact h
theorem hM_tr {f : Nat → O3} {n : Nat} : ∀ (k : Nat) (s : PS) (x : σ), s.trace <+: (hM ask f n k s x).1.trace
  | 0, _, _ => List.prefix_refl _
  | k + 1, s, x => by
    unfold hM
    refine ite_ok (P := fun q : PS × σ => s.trace <+: q.1.trace) (ite_ok (P := fun q : PS × σ => s.trace <+: q.1.trace) (List.prefix_refl _) ?_) (List.prefix_refl _)
    exact List.IsPrefix.trans (opM_tr (ask := ask) (f s.next.toNat) { s with fuel := s.fuel - 1, next := s.next + 1 } x) (hM_tr k _ _)
theorem hM_halt {f : Nat → O3} {n : Nat} (k : Nat) (s : PS) (x : σ) (h : s.fin ≠ 0) : hM ask f n k s x = (s, x) := by
  cases k with
  | zero => rfl
  | succ k => unfold hM; rw [if_neg (fun c => h c.2)]
theorem gT_tr (p : Pg) (z : Int) (s : PS) (x : σ) : s.trace <+: (gT ask p z s x).1.trace := hM_tr (ask := ask) _ { s with next := 0 } x
theorem gF_tr (p : Pg) (z : Int) (s : PS) (x : σ) : s.trace <+: (gF ask p z s x).1.trace := hM_tr (ask := ask) _ { s with next := 0 } x
theorem frM_tr (p : Pg) : ∀ (l : List TM) (s : PS) (x : σ), s.trace <+: (frM (gT ask p) l s x).1.trace
  | [], _, _ => List.prefix_refl _
  | t :: r, s, x => by
    unfold frM
    refine ite_ok (P := fun q : PS × σ => s.trace <+: q.1.trace) (List.prefix_refl _) (ite_ok (P := fun q : PS × σ => s.trace <+: q.1.trace) ?_ (frM_tr p r s x))
    exact List.IsPrefix.trans (List.IsPrefix.trans (List.prefix_append _ _) (gT_tr p _ (offS s t.2.2.2) x)) (frM_tr p r _ _)
theorem frM_halt (g : Int → PS → σ → PS × σ) (l : List TM) (s : PS) (x : σ) (h : s.fin ≠ 0) : frM g l s x = (s, x) := by
  cases l with
  | nil => rfl
  | cons t r => unfold frM; rw [if_pos h]
theorem wk1_tr (p : Pg) (z : Int) (s : PS) (x : σ) : s.trace <+: (wk1 (gF ask p) z s x).1.trace := by
  unfold wk1
  refine ite_ok (P := fun q : PS × σ => s.trace <+: q.1.trace) ?_ (List.prefix_refl _)
  exact List.IsPrefix.trans (List.prefix_append _ _) (gF_tr p z { s with trace := s.trace ++ [(2, z, 0)] } x)
theorem wkM_tr (p : Pg) : ∀ (k : Nat) (l : List Int) (s : PS) (x : σ), s.trace <+: (wkM ask (gF ask p) k l s x).1.trace
  | 0, _, _, _ => List.prefix_refl _
  | k + 1, l, s, x => by
    have h1 := (pk_same (ask := ask) l.length s x).2.2.2.1
    unfold wkM
    refine ite_ok (P := fun q : PS × σ => s.trace <+: q.1.trace) (List.prefix_refl _) (ite_ok (P := fun q : PS × σ => s.trace <+: q.1.trace) ?_ ?_)
    · refine List.IsPrefix.trans ?_ (wkM_tr p k _ _ _)
      have := wk1_tr (ask := ask) p (l.getD (pk ask l.length s x).1.toNat 0) (pk ask l.length s x).2.2.1 (pk ask l.length s x).2.2.2
      rwa [h1] at this
    · show s.trace <+: (pk ask l.length s x).2.2.1.trace
      rw [h1]; exact List.prefix_refl _
theorem wkM_halt (g : Int → PS → σ → PS × σ) (k : Nat) (l : List Int) (s : PS) (x : σ) (h : s.fin ≠ 0) : wkM ask g k l s x = (s, x) := by
  cases k with
  | zero => rfl
  | succ k => unfold wkM; rw [if_pos (.inr h)]
theorem wakeM_tr (p : Pg) (s : PS) (x : σ) : s.trace <+: (wakeM ask p s x).1.trace := by
  unfold wakeM
  exact ite_ok (P := fun q : PS × σ => s.trace <+: q.1.trace) (wkM_tr (ask := ask) p 8 _ { s with heard := wrap64 (s.heard + 1) } _) (List.prefix_refl _)
theorem turnM_tr (p : Pg) (s : PS) (x : σ) : s.trace <+: (turnM ask p s x).1.trace := by
  have h0 := (takes_ck s).trace (ask x 1 0).1
  have h1 := frM_tr (ask := ask) p (dueS (ckS s (ask x 1 0).1)) (ckS s (ask x 1 0).1) (ask x 1 0).2
  rw [h0] at h1
  unfold turnM
  refine ite_ok (P := fun q : PS × σ => s.trace <+: q.1.trace) (List.prefix_refl _) (ite_ok (P := fun q : PS × σ => s.trace <+: q.1.trace) (ite_ok (P := fun q : PS × σ => s.trace <+: q.1.trace) (List.IsPrefix.trans h1 (wakeM_tr p _ _)) h1) ?_)
  show s.trace <+: (ckS s (ask x 1 0).1).trace
  rw [h0]; exact List.prefix_refl _
theorem turnsM_tr (p : Pg) : ∀ (k : Nat) (s : PS) (x : σ), s.trace <+: (turnsM ask p k s x).1.trace
  | 0, _, _ => List.prefix_refl _
  | k + 1, s, x => by
    unfold turnsM
    exact ite_ok (P := fun q : PS × σ => s.trace <+: q.1.trace) (List.IsPrefix.trans (turnM_tr p s x) (turnsM_tr p k _ _)) (List.prefix_refl _)

/-! ### What holds of the source behind a run held of it ahead -/
section
variable {G : σ → Prop}
theorem opM_back (hG : ∀ x k o, G (ask x k o).2 → G x) (o : O3) (s : PS) (x : σ) (h : G (opM ask o s x).2) : G x := by
  by_cases h7 : o.1 = 7
  · rw [opM_now o s x h7] at h; exact hG _ _ _ h
  by_cases h8 : o.1 = 8
  · rw [opM_lot o s x h8] at h; exact hG _ _ _ h
  obtain ⟨s', _, _, e⟩ := opM_plain o s h7 h8
  rwa [e] at h
theorem hM_back (hG : ∀ x k o, G (ask x k o).2 → G x) {f : Nat → O3} {n : Nat} : ∀ (k : Nat) (s : PS) (x : σ), G (hM ask f n k s x).2 → G x
  | 0, _, _, h => h
  | k + 1, s, x, h => by
    unfold hM at h
    by_cases hc : s.next < n ∧ s.fin = 0
    · rw [if_pos hc] at h
      by_cases hf : s.fuel = 0
      · rw [if_pos hf] at h; exact h
      · rw [if_neg hf] at h; exact opM_back hG _ _ _ (hM_back hG k _ _ h)
    · rw [if_neg hc] at h; exact h
theorem frM_back (hG : ∀ x k o, G (ask x k o).2 → G x) (p : Pg) : ∀ (l : List TM) (s : PS) (x : σ), G (frM (gT ask p) l s x).2 → G x
  | [], _, _, h => h
  | t :: r, s, x, h => by
    unfold frM at h
    by_cases hc : s.fin ≠ 0
    · rw [if_pos hc] at h; exact h
    · rw [if_neg hc] at h
      by_cases ht : s.tim t.2.2.2.toNat = t
      · rw [if_pos ht] at h; exact hM_back hG _ _ _ (frM_back hG p r _ _ h)
      · rw [if_neg ht] at h; exact frM_back hG p r _ _ h
theorem wk1_back (hG : ∀ x k o, G (ask x k o).2 → G x) (p : Pg) (z : Int) (s : PS) (x : σ) (h : G (wk1 (gF ask p) z s x).2) : G x := by
  unfold wk1 at h
  by_cases hw : s.wat z.toNat = true
  · rw [if_pos hw] at h; exact hM_back hG _ _ _ h
  · rw [if_neg hw] at h; exact h
theorem pk_back (hG : ∀ x k o, G (ask x k o).2 → G x) (n : Nat) (s : PS) (x : σ) (h : G (pk ask n s x).2.2.2) : G x := by
  unfold pk at h
  by_cases hn : n = 1
  · rw [if_pos hn] at h; exact h
  · rw [if_neg hn] at h; exact hG _ _ _ h
theorem wkM_back (hG : ∀ x k o, G (ask x k o).2 → G x) (p : Pg) : ∀ (k : Nat) (l : List Int) (s : PS) (x : σ), G (wkM ask (gF ask p) k l s x).2 → G x
  | 0, _, _, _, h => h
  | k + 1, l, s, x, h => by
    unfold wkM at h
    by_cases hc : l = [] ∨ s.fin ≠ 0
    · rw [if_pos hc] at h; exact h
    · rw [if_neg hc] at h
      by_cases hp : (pk ask l.length s x).2.1 = true
      · rw [if_pos hp] at h; exact pk_back hG _ _ _ (wk1_back hG p _ _ _ (wkM_back hG p k _ _ _ h))
      · rw [if_neg hp] at h; exact pk_back hG _ _ _ h
theorem wakeM_back (hG : ∀ x k o, G (ask x k o).2 → G x) (p : Pg) (s : PS) (x : σ) (h : G (wakeM ask p s x).2) : G x := by
  unfold wakeM at h
  by_cases hc : (ask x 2 0).1.e = 0
  · rw [if_pos hc] at h; exact hG _ _ _ (wkM_back hG p _ _ _ _ h)
  · rw [if_neg hc] at h; exact hG _ _ _ h
theorem turnM_back (hG : ∀ x k o, G (ask x k o).2 → G x) (p : Pg) (s : PS) (x : σ) (h : G (turnM ask p s x).2) : G x := by
  unfold turnM at h
  by_cases hi : idleB s = true
  · rw [if_pos hi] at h; exact h
  rw [if_neg hi] at h
  by_cases hc : ckB s (ask x 1 0).1 = true
  · rw [if_pos hc] at h
    by_cases hf : (frM (gT ask p) (dueS (ckS s (ask x 1 0).1)) (ckS s (ask x 1 0).1) (ask x 1 0).2).1.fin = 0
    · rw [if_pos hf] at h; exact hG _ _ _ (frM_back hG p _ _ _ (wakeM_back hG p _ _ h))
    · rw [if_neg hf] at h; exact hG _ _ _ (frM_back hG p _ _ _ h)
  · rw [if_neg hc] at h; exact hG _ _ _ h
theorem turnsM_back (hG : ∀ x k o, G (ask x k o).2 → G x) (p : Pg) : ∀ (k : Nat) (s : PS) (x : σ), G (turnsM ask p k s x).2 → G x
  | 0, _, _, h => h
  | k + 1, s, x, h => by
    unfold turnsM at h
    by_cases hc : s.fin = 0
    · rw [if_pos hc] at h; exact turnM_back hG p _ _ (turnsM_back hG p k _ _ h)
    · rw [if_neg hc] at h; exact h
end
end
end Go.Proofs.YtfmbebofllgmoaaGreatDoor
namespace Go.Proofs.YtfmbebofllgmoaaGreatDoor
open Go.RowKit Go.Sort

section
variable {σ τ : Type} {ask1 : σ → Int → Int → Rep × σ} {ask2 : τ → Int → Int → Rep × τ} {may : Int → Int → Prop} {G : σ → Prop} {Q : Int → σ → τ → Prop} {Z : Int → Int → σ → τ → Prop} {P : PS → PS → Prop}

/-- Two sources that answer alike (Q: so long; Z: when both have ended the run), till the second one ends the run otherwise (P: what holds of the two runs then). -/
structure Alike (ask1 : σ → Int → Int → Rep × σ) (ask2 : τ → Int → Int → Rep × τ) (may : Int → Int → Prop) (G : σ → Prop) (Q : Int → σ → τ → Prop) (Z : Int → Int → σ → τ → Prop) (P : PS → PS → Prop) : Prop where
  back : ∀ x k o, G (ask1 x k o).2 → G x
  step : ∀ h x y k o, may k o → Q h x y → G (ask1 x k o).2 →
    ((ask1 x k o).1 = (ask2 y k o).1 ∧ ((ask1 x k o).1.e = 0 → Q (wrap64 (h + 1)) (ask1 x k o).2 (ask2 y k o).2) ∧ ((ask1 x k o).1.e ≠ 0 → Z (ask1 x k o).1.e h (ask1 x k o).2 (ask2 y k o).2)) ∨
    ((ask2 y k o).1.e ≠ 0 ∧ ∀ s : PS, s.heard = h → s.fin = 0 → ((ask1 x k o).1.e ≠ 0 → P { s with fin := (ask1 x k o).1.e } { s with fin := (ask2 y k o).1.e }) ∧
      ((ask1 x k o).1.e = 0 → ∀ s' : PS, s.trace <+: s'.trace → P s' { s with fin := (ask2 y k o).1.e }))
  grow : ∀ s s' t : PS, P s t → s.fin = 0 → s.trace <+: s'.trace → P s' t

/-- Two runs so far. -/
def Rl (Q : Int → σ → τ → Prop) (Z : Int → Int → σ → τ → Prop) (P : PS → PS → Prop) (r1 : PS × σ) (r2 : PS × τ) : Prop := (r1.1 = r2.1 ∧ (Q r1.1.heard r1.2 r2.2 ∨ (r1.1.fin ≠ 0 ∧ Z r1.1.fin r1.1.heard r1.2 r2.2))) ∨ (r2.1.fin ≠ 0 ∧ P r1.1 r2.1)
theorem Rl.sync {r1 : PS × σ} {r2 : PS × τ} (e : r1.1 = r2.1) (q : Q r1.1.heard r1.2 r2.2) : Rl Q Z P r1 r2 := .inl ⟨e, .inl q⟩

theorem Rl.bind (A : Alike ask1 ask2 may G Q Z P) {r1 : PS × σ} {r2 : PS × τ} (h : Rl Q Z P r1 r2) {F1 : PS → σ → PS × σ} {F2 : PS → τ → PS × τ} (h1 : ∀ s x, s.fin ≠ 0 → F1 s x = (s, x)) (h2 : ∀ s x, s.fin ≠ 0 → F2 s x = (s, x))
    (ht : ∀ s x, s.trace <+: (F1 s x).1.trace) (hs : r1.1.fin = 0 → Q r1.1.heard r1.2 r2.2 → Rl Q Z P (F1 r1.1 r1.2) (F2 r1.1 r2.2)) : Rl Q Z P (F1 r1.1 r1.2) (F2 r2.1 r2.2) := by
  rcases h with ⟨e, q⟩ | ⟨e, p⟩
  · rw [← e]
    by_cases h0 : r1.1.fin = 0
    · rcases q with q | ⟨q, _⟩
      · exact hs h0 q
      · exact absurd h0 q
    · rw [h1 _ _ h0, h2 _ _ h0]; exact .inl ⟨rfl, q⟩
  · rw [h2 _ _ e]
    by_cases h0 : r1.1.fin = 0
    · exact .inr ⟨e, A.grow _ _ _ p h0 (ht _ _)⟩
    · rw [h1 _ _ h0]; exact .inr ⟨e, p⟩

/-- A question, and what comes behind its answer. -/
theorem ask_bind (A : Alike ask1 ask2 may G Q Z P) {s : PS} {x : σ} {y : τ} {k o : Int} (hm : may k o) (hq : Q s.heard x y) (h0 : s.fin = 0) (K1 : Rep → σ → PS × σ) (K2 : Rep → τ → PS × τ)
    (h1 : ∀ R x, R.e ≠ 0 → K1 R x = ({ s with fin := R.e }, x)) (h2 : ∀ R x, R.e ≠ 0 → K2 R x = ({ s with fin := R.e }, x)) (ht : ∀ R x, s.trace <+: (K1 R x).1.trace) (hb : ∀ R x, G (K1 R x).2 → G x)
    (hs : ∀ R x' y', R = (ask1 x k o).1 → R.e = 0 → Q (wrap64 (s.heard + 1)) x' y' → G (K1 R x').2 → Rl Q Z P (K1 R x') (K2 R y')) (hg : G (K1 (ask1 x k o).1 (ask1 x k o).2).2) :
    Rl Q Z P (K1 (ask1 x k o).1 (ask1 x k o).2) (K2 (ask2 y k o).1 (ask2 y k o).2) := by
  rcases A.step s.heard x y k o hm hq (hb _ _ hg) with ⟨e, q0, q1⟩ | ⟨e, p⟩
  · rw [← e]
    by_cases he : (ask1 x k o).1.e = 0
    · exact hs _ _ _ rfl he (q0 he) hg
    · rw [h1 _ _ he, h2 _ _ he]; exact .inl ⟨rfl, .inr ⟨he, q1 he⟩⟩
  · obtain ⟨p1, p0⟩ := p s rfl h0
    rw [h2 _ _ e]
    refine .inr ⟨e, ?_⟩
    by_cases he : (ask1 x k o).1.e = 0
    · exact p0 he _ (ht _ _)
    · rw [h1 _ _ he]; exact p1 he

theorem ask_sim (A : Alike ask1 ask2 may G Q Z P) {s : PS} {x : σ} {y : τ} {k o : Int} (hm : may k o) (hq : Q s.heard x y) (h0 : s.fin = 0) {B : Rep → PS} (hB : Takes s B) (hg : G (ask1 x k o).2) :
    Rl Q Z P (B (ask1 x k o).1, (ask1 x k o).2) (B (ask2 y k o).1, (ask2 y k o).2) :=
  ask_bind A hm hq h0 (fun R x => (B R, x)) (fun R x => (B R, x)) (fun R x h => by rw [hB.stop R h]) (fun R x h => by rw [hB.stop R h]) (fun R x => by rw [hB.trace R]; exact List.prefix_refl _) (fun R x h => h)
    (fun R x' y' _ he q _ => Rl.sync rfl (by show Q (B R).heard x' y'; rw [hB.heard R he]; exact q)) hg

theorem opM_sim (A : Alike ask1 ask2 may G Q Z P) (hm : MayOk may) {nt nf : Nat} (o : O3) {s : PS} {x : σ} {y : τ} (hr : rt o nt nf = true) (hq : Q s.heard x y) (h0 : s.fin = 0) (hg : G (opM ask1 o s x).2) : Rl Q Z P (opM ask1 o s x) (opM ask2 o s y) := by
  by_cases h7 : o.1 = 7
  · rw [opM_now o s x h7] at hg ⊢
    rw [opM_now o s y h7]
    exact ask_sim A hm.clock hq h0 (takes_now s _) hg
  by_cases h8 : o.1 = 8
  · rw [opM_lot o s x h8] at hg ⊢
    rw [opM_lot o s y h8]
    have hr' : rightB 8 o.2.1 o.2.2 nt nf = true := by rw [← h8]; exact hr
    obtain ⟨q1, q2⟩ := right_lot hr'
    exact ask_sim A (hm.lot _ q1 q2) hq h0 (takes_lot s _) hg
  obtain ⟨s', hh, _, e⟩ := opM_plain o s h7 h8
  rw [e, e]
  exact Rl.sync rfl (by show Q s'.heard x y; rw [hh]; exact hq)

theorem hM_sim (A : Alike ask1 ask2 may G Q Z P) (hm : MayOk may) {nt nf n : Nat} {f : Nat → O3} (hr : ∀ i, i < n → rt (f i) nt nf = true) : ∀ (k : Nat) {s : PS} {x : σ} {y : τ}, 0 ≤ s.next → Q s.heard x y → G (hM ask1 f n k s x).2 → Rl Q Z P (hM ask1 f n k s x) (hM ask2 f n k s y)
  | 0, s, x, y, _, hq, _ => Rl.sync rfl hq
  | k + 1, s, x, y, hn, hq, hg => by
    unfold hM at hg ⊢
    by_cases hc : s.next < n ∧ s.fin = 0
    · rw [if_pos hc] at hg ⊢
      rw [if_pos hc]
      by_cases hf : s.fuel = 0
      · rw [if_pos hf] at hg ⊢
        rw [if_pos hf]
        exact Rl.sync rfl hq
      · rw [if_neg hf] at hg ⊢
        rw [if_neg hf]
        have hg1 := hM_back A.back k _ _ hg
        have h1 := opM_sim A hm (f s.next.toNat) (s := { s with fuel := s.fuel - 1, next := s.next + 1 }) (hr s.next.toNat (by omega)) hq hc.2 hg1
        have hnx := opM_next (ask := ask1) (f s.next.toNat) { s with fuel := s.fuel - 1, next := s.next + 1 } x
        exact h1.bind A (fun s x h => hM_halt k s x h) (fun s x h => hM_halt k s x h) (fun s x => hM_tr k s x) (fun _ q => hM_sim A hm hr k (by simp only at hnx; omega) q hg)
    · rw [if_neg hc] at hg ⊢
      rw [if_neg hc]
      exact Rl.sync rfl hq

theorem frM_sim (A : Alike ask1 ask2 may G Q Z P) (hm : MayOk may) {p : Pg} (hp : PgOk p) : ∀ (l : List TM) {s : PS} {x : σ} {y : τ}, (∀ t, t ∈ l → 0 ≤ t.2.2.2 ∧ t.2.2.2 < p.tn) → Q s.heard x y → G (frM (gT ask1 p) l s x).2 → Rl Q Z P (frM (gT ask1 p) l s x) (frM (gT ask2 p) l s y)
  | [], s, x, y, _, hq, _ => Rl.sync rfl hq
  | t :: r, s, x, y, hl, hq, hg => by
    have hr := fun t ht => hl t (List.mem_cons_of_mem _ ht)
    have h1 := hl t (List.mem_cons_self ..)
    unfold frM at hg ⊢
    by_cases hc : s.fin ≠ 0
    · rw [if_pos hc, if_pos hc]; exact Rl.sync rfl hq
    · rw [if_neg hc] at hg ⊢
      rw [if_neg hc]
      by_cases ht : s.tim t.2.2.2.toNat = t
      · rw [if_pos ht] at hg ⊢
        rw [if_pos ht]
        have hg1 := frM_back A.back p r _ _ hg
        have h2 : Rl Q Z P (gT ask1 p t.2.2.2 (offS s t.2.2.2) x) (gT ask2 p t.2.2.2 (offS s t.2.2.2) y) := hM_sim A hm (hp.tr t.2.2.2.toNat (by omega)) _ (s := { offS s t.2.2.2 with next := 0 }) (Int.le_refl 0) hq hg1
        exact h2.bind A (fun s x h => frM_halt _ r s x h) (fun s x h => frM_halt _ r s x h) (fun s x => frM_tr p r s x) (fun _ q => frM_sim A hm hp r hr q hg)
      · rw [if_neg ht] at hg ⊢
        rw [if_neg ht]
        exact frM_sim A hm hp r hr hq hg

theorem wk1_sim (A : Alike ask1 ask2 may G Q Z P) (hm : MayOk may) {p : Pg} (hp : PgOk p) (z : Int) {s : PS} {x : σ} {y : τ} (hw : WInv p.tn p.fn s) (hq : Q s.heard x y) (hg : G (wk1 (gF ask1 p) z s x).2) : Rl Q Z P (wk1 (gF ask1 p) z s x) (wk1 (gF ask2 p) z s y) := by
  unfold wk1 at hg ⊢
  by_cases h : s.wat z.toNat = true
  · rw [if_pos h] at hg ⊢
    rw [if_pos h]
    exact hM_sim A hm (hp.fr z.toNat (hw.wat _ h)) _ (s := { s with trace := s.trace ++ [(2, z, 0)], next := 0 }) (Int.le_refl 0) hq hg
  · rw [if_neg h, if_neg h]; exact Rl.sync rfl hq

theorem wk1_winv {p : Pg} (hp : PgOk p) {ask : σ → Int → Int → Rep × σ} (z : Int) {s : PS} (x : σ) (hw : WInv p.tn p.fn s) : WInv p.tn p.fn (wk1 (gF ask p) z s x).1 := by
  unfold wk1
  by_cases h : s.wat z.toNat = true
  · rw [if_pos h]; exact hM_winv (hp.fr z.toNat (hw.wat _ h)) _ _ _ (Int.le_refl 0) (hw.of rfl rfl rfl)
  · rw [if_neg h]; exact hw

/-- Behind a pick. -/
def pkK (g : Int → PS → σ → PS × σ) (ask : σ → Int → Int → Rep × σ) (k : Nat) (l : List Int) (s : PS) (R : Rep) (x : σ) : PS × σ :=
  if R.e = 0 then wkM ask g k (l.eraseIdx R.n.toNat) (wk1 g (l.getD R.n.toNat 0) { s with heard := wrap64 (s.heard + 1) } x).1 (wk1 g (l.getD R.n.toNat 0) { s with heard := wrap64 (s.heard + 1) } x).2 else ({ s with fin := R.e }, x)
theorem wkM_one (ask : σ → Int → Int → Rep × σ) (g : Int → PS → σ → PS × σ) (k : Nat) (l : List Int) (s : PS) (x : σ) (h : l.length = 1) (h0 : s.fin = 0) : wkM ask g (k + 1) l s x = wkM ask g k (l.eraseIdx 0) (wk1 g (l.getD 0 0) s x).1 (wk1 g (l.getD 0 0) s x).2 := by
  have hl : ¬ (l = [] ∨ s.fin ≠ 0) := by rintro (h' | h'); · rw [h'] at h; simp at h
                                         · exact h' h0
  simp only [wkM]
  rw [if_neg hl]
  simp only [pk, h, if_true, Int.toNat_zero]
theorem wkM_many (ask : σ → Int → Int → Rep × σ) (g : Int → PS → σ → PS × σ) (k : Nat) (l : List Int) (s : PS) (x : σ) (h : 2 ≤ l.length) (h0 : s.fin = 0) : wkM ask g (k + 1) l s x = pkK g ask k l s (ask x 3 l.length).1 (ask x 3 l.length).2 := by
  have hl : ¬ (l = [] ∨ s.fin ≠ 0) := by rintro (h' | h'); · rw [h'] at h; simp at h
                                         · exact h' h0
  have h1 : ¬ l.length = 1 := by omega
  simp only [wkM]
  rw [if_neg hl]
  simp only [pk, h1, if_false, pkK, hdS]
  by_cases he : (ask x 3 l.length).1.e = 0
  · simp only [he, decide_true, if_true]
  · simp only [he, decide_false, if_false, Bool.false_eq_true]

theorem wkM_sim (A : Alike ask1 ask2 may G Q Z P) (hm : MayOk may) {p : Pg} (hp : PgOk p) : ∀ (k : Nat) (l : List Int) {s : PS} {x : σ} {y : τ}, l.length ≤ 8 → WInv p.tn p.fn s → Q s.heard x y → G (wkM ask1 (gF ask1 p) k l s x).2 → Rl Q Z P (wkM ask1 (gF ask1 p) k l s x) (wkM ask2 (gF ask2 p) k l s y)
  | 0, l, s, x, y, _, _, hq, _ => Rl.sync rfl hq
  | k + 1, l, s, x, y, hl, hw, hq, hg => by
    by_cases hc : l = [] ∨ s.fin ≠ 0
    · unfold wkM
      rw [if_pos hc, if_pos hc]; exact Rl.sync rfl hq
    have h0 : s.fin = 0 := Decidable.byContradiction fun h => hc (.inr h)
    have hne : l ≠ [] := fun h => hc (.inl h)
    have hpos : 0 < l.length := List.length_pos_iff.2 hne
    by_cases h1 : l.length = 1
    · rw [wkM_one ask1 _ k l s x h1 h0] at hg ⊢
      rw [wkM_one ask2 _ k l s y h1 h0]
      have hg1 := wkM_back A.back p k _ _ _ hg
      have hw1 := wk1_winv hp (ask := ask1) (l.getD 0 0) x hw
      have hle : (l.eraseIdx 0).length ≤ 8 := Nat.le_trans (List.length_eraseIdx_le _ _) hl
      exact (wk1_sim A hm hp _ hw hq hg1).bind A (fun s x h => wkM_halt _ k _ s x h) (fun s x h => wkM_halt _ k _ s x h) (fun s x => wkM_tr p k _ s x) (fun _ q => wkM_sim A hm hp k _ hle hw1 q hg)
    · rw [wkM_many ask1 _ k l s x (by omega) h0] at hg ⊢
      rw [wkM_many ask2 _ k l s y (by omega) h0]
      refine ask_bind A (hm.pick l.length (by omega) hl) hq h0 (pkK (gF ask1 p) ask1 k l s) (pkK (gF ask2 p) ask2 k l s) (fun R x h => by unfold pkK; rw [if_neg h]) (fun R x h => by unfold pkK; rw [if_neg h]) ?_ ?_ ?_ hg
      · intro R x
        unfold pkK
        exact ite_ok (P := fun q : PS × σ => s.trace <+: q.1.trace) (List.IsPrefix.trans (wk1_tr (ask := ask1) p (l.getD R.n.toNat 0) { s with heard := wrap64 (s.heard + 1) } x) (wkM_tr p k _ _ _)) (List.prefix_refl _)
      · intro R x h
        unfold pkK at h
        by_cases he : R.e = 0
        · rw [if_pos he] at h; exact wk1_back A.back p _ _ _ (wkM_back A.back p k _ _ _ h)
        · rw [if_neg he] at h; exact h
      · intro R x' y' _ he hq' hg'
        unfold pkK at hg' ⊢
        rw [if_pos he] at hg' ⊢
        rw [if_pos he]
        have hw0 : WInv p.tn p.fn { s with heard := wrap64 (s.heard + 1) } := hw.of rfl rfl rfl
        have hg1 := wkM_back A.back p k _ _ _ hg'
        have hw1 := wk1_winv hp (ask := ask1) (l.getD R.n.toNat 0) x' hw0
        have hle : (l.eraseIdx R.n.toNat).length ≤ 8 := Nat.le_trans (List.length_eraseIdx_le _ _) hl
        exact (wk1_sim A hm hp _ hw0 hq' hg1).bind A (fun s x h => wkM_halt _ k _ s x h) (fun s x h => wkM_halt _ k _ s x h) (fun s x => wkM_tr p k _ s x) (fun _ q => wkM_sim A hm hp k _ hle hw1 q hg')

/-- The first source's batches are batches. -/
def Most (ask1 : σ → Int → Int → Rep × σ) : Prop := ∀ x, (ask1 x 2 0).1.files.length ≤ 8

def wakeK (ask : σ → Int → Int → Rep × σ) (p : Pg) (s : PS) (R : Rep) (x : σ) : PS × σ :=
  if R.e = 0 then wkM ask (gF ask p) 8 (R.files.filter fun z => s.wat z.toNat) { s with heard := wrap64 (s.heard + 1) } x else ({ s with fin := R.e }, x)

theorem wakeM_sim (A : Alike ask1 ask2 may G Q Z P) (hm : MayOk may) (hM8 : Most ask1) {p : Pg} (hp : PgOk p) {s : PS} {x : σ} {y : τ} (hw : WInv p.tn p.fn s) (h0 : s.fin = 0) (hq : Q s.heard x y) (hg : G (wakeM ask1 p s x).2) : Rl Q Z P (wakeM ask1 p s x) (wakeM ask2 p s y) := by
  refine ask_bind A hm.batch hq h0 (wakeK ask1 p s) (wakeK ask2 p s) (fun R x h => by unfold wakeK; rw [if_neg h]) (fun R x h => by unfold wakeK; rw [if_neg h]) ?_ ?_ ?_ hg
  · intro R x
    unfold wakeK
    exact ite_ok (P := fun q : PS × σ => s.trace <+: q.1.trace) (wkM_tr (ask := ask1) p 8 _ { s with heard := wrap64 (s.heard + 1) } _) (List.prefix_refl _)
  · intro R x h
    unfold wakeK at h
    by_cases he : R.e = 0
    · rw [if_pos he] at h; exact wkM_back A.back p _ _ _ _ h
    · rw [if_neg he] at h; exact h
  · intro R x' y' hR he hq' hg'
    unfold wakeK at hg' ⊢
    rw [if_pos he] at hg' ⊢
    rw [if_pos he]
    exact wkM_sim A hm hp 8 _ (Nat.le_trans (List.length_filter_le _ _) (hR ▸ hM8 x)) (hw.of rfl rfl rfl) hq' hg'

theorem frM_winv' {ask : σ → Int → Int → Rep × σ} {p : Pg} (hp : PgOk p) : ∀ (l : List TM) (s : PS) (x : σ), (∀ t, t ∈ l → 0 ≤ t.2.2.2 ∧ t.2.2.2 < p.tn) → WInv p.tn p.fn s → WInv p.tn p.fn (frM (gT ask p) l s x).1
  | [], _, _, _, h => h
  | t :: r, s, x, hl, h => by
    have h1 := hl t (List.mem_cons_self ..)
    have hr := fun t ht => hl t (List.mem_cons_of_mem _ ht)
    unfold frM
    refine ite_ok (P := fun q : PS × σ => WInv p.tn p.fn q.1) h (ite_ok (P := fun q : PS × σ => WInv p.tn p.fn q.1) ?_ (frM_winv' hp r s x hr h))
    exact frM_winv' hp r _ _ hr (hM_winv (hp.tr t.2.2.2.toNat (by omega)) _ _ _ (Int.le_refl 0) ((frM_winv t.2.2.2 h).of rfl rfl rfl))

/-- A turn's timers and files. -/
def restM (ask : σ → Int → Int → Rep × σ) (p : Pg) (s : PS) (x : σ) : PS × σ := if s.fin = 0 then wakeM ask p s x else (s, x)
def turnK (ask : σ → Int → Int → Rep × σ) (p : Pg) (s : PS) (R : Rep) (x : σ) : PS × σ :=
  if ckB s R then restM ask p (frM (gT ask p) (dueS (ckS s R)) (ckS s R) x).1 (frM (gT ask p) (dueS (ckS s R)) (ckS s R) x).2 else (ckS s R, x)

theorem turnM_sim (A : Alike ask1 ask2 may G Q Z P) (hm : MayOk may) (hM8 : Most ask1) {p : Pg} (hp : PgOk p) {s : PS} {x : σ} {y : τ} (hw : WInv p.tn p.fn s) (h0 : s.fin = 0) (hq : Q s.heard x y) (hg : G (turnM ask1 p s x).2) : Rl Q Z P (turnM ask1 p s x) (turnM ask2 p s y) := by
  by_cases hi : idleB s = true
  · unfold turnM
    rw [if_pos hi, if_pos hi]; exact Rl.sync rfl hq
  have e1 : turnM ask1 p s x = turnK ask1 p s (ask1 x 1 0).1 (ask1 x 1 0).2 := by unfold turnM turnK restM; rw [if_neg hi]
  have e2 : turnM ask2 p s y = turnK ask2 p s (ask2 y 1 0).1 (ask2 y 1 0).2 := by unfold turnM turnK restM; rw [if_neg hi]
  have ht : ∀ s x, s.trace <+: (restM ask1 p s x).1.trace := fun s x => by
    unfold restM; exact ite_ok (P := fun q : PS × σ => s.trace <+: q.1.trace) (wakeM_tr p s x) (List.prefix_refl _)
  have hb : ∀ s x, G (restM ask1 p s x).2 → G x := fun s x h => by
    unfold restM at h
    by_cases h0 : s.fin = 0
    · rw [if_pos h0] at h; exact wakeM_back A.back p s x h
    · rw [if_neg h0] at h; exact h
  rw [e1] at hg ⊢
  rw [e2]
  have hno : ∀ R : Rep, R.e ≠ 0 → ckB s R = false := fun R h => by unfold ckB; simp [h]
  refine ask_bind A hm.clock hq h0 (turnK ask1 p s) (turnK ask2 p s) (fun R x h => ?_) (fun R x h => ?_) ?_ ?_ ?_ hg
  · unfold turnK; rw [hno R h, (takes_ck s).stop R h]; rfl
  · unfold turnK; rw [hno R h, (takes_ck s).stop R h]; rfl
  · intro R x
    have h1 := frM_tr (ask := ask1) p (dueS (ckS s R)) (ckS s R) x
    rw [(takes_ck s).trace R] at h1
    unfold turnK
    refine ite_ok (P := fun q : PS × σ => s.trace <+: q.1.trace) (List.IsPrefix.trans h1 (ht _ _)) ?_
    show s.trace <+: (ckS s R).trace
    rw [(takes_ck s).trace R]; exact List.prefix_refl _
  · intro R x h
    unfold turnK at h
    by_cases hc : ckB s R = true
    · rw [if_pos hc] at h; exact frM_back A.back p _ _ _ (hb _ _ h)
    · rw [if_neg hc] at h; exact h
  · intro R x' y' _ he hq' hg'
    have hh := (takes_ck s).heard R he
    unfold turnK at hg' ⊢
    by_cases hc : ckB s R = true
    · rw [if_pos hc] at hg' ⊢
      rw [if_pos hc]
      have hwc := ckS_winv hw R
      have hd : ∀ t, t ∈ dueS (ckS s R) → 0 ≤ t.2.2.2 ∧ t.2.2.2 < p.tn := fun t ht => mem_due hwc ht
      have hg1 := hb _ _ hg'
      have hw1 := frM_winv' (ask := ask1) hp (dueS (ckS s R)) (ckS s R) x' hd hwc
      refine (frM_sim A hm hp (dueS (ckS s R)) hd (by rw [hh]; exact hq') hg1).bind A (fun s x h => by unfold restM; rw [if_neg h]) (fun s x h => by unfold restM; rw [if_neg h]) ht (fun hz q => ?_)
      unfold restM at hg' ⊢
      rw [if_pos hz] at hg' ⊢
      rw [if_pos hz]
      exact wakeM_sim A hm hM8 hp hw1 hz q hg'
    · rw [if_neg hc, if_neg hc]
      exact Rl.sync rfl (by show Q (ckS s R).heard x' y'; rw [hh]; exact hq')

theorem turnM_winv {ask : σ → Int → Int → Rep × σ} {p : Pg} (hp : PgOk p) {s : PS} (x : σ) (hw : WInv p.tn p.fn s) : WInv p.tn p.fn (turnM ask p s x).1 := by
  have hwc := ckS_winv hw (ask x 1 0).1
  have h1 := frM_winv' (ask := ask) hp (dueS (ckS s (ask x 1 0).1)) (ckS s (ask x 1 0).1) (ask x 1 0).2 (fun t ht => mem_due hwc ht) hwc
  unfold turnM
  refine ite_ok (P := fun q : PS × σ => WInv p.tn p.fn q.1) (hw.of rfl rfl rfl) (ite_ok (P := fun q : PS × σ => WInv p.tn p.fn q.1) (ite_ok (P := fun q : PS × σ => WInv p.tn p.fn q.1) ?_ h1) hwc)
  have hk : ∀ (k : Nat) (l : List Int) (s : PS) (x : σ), WInv p.tn p.fn s → WInv p.tn p.fn (wkM ask (gF ask p) k l s x).1 := by
    intro k
    induction k with
    | zero => intro l s x h; exact h
    | succ k ih =>
      intro l s x h
      obtain ⟨_, _, p3, _, p5, p6⟩ := pk_same (ask := ask) l.length s x
      have h2 : WInv p.tn p.fn (pk ask l.length s x).2.2.1 := h.of p5 p6 p3
      unfold wkM
      exact ite_ok (P := fun q : PS × σ => WInv p.tn p.fn q.1) h (ite_ok (P := fun q : PS × σ => WInv p.tn p.fn q.1) (ih _ _ _ (wk1_winv hp _ _ h2)) h2)
  unfold wakeM
  exact ite_ok (P := fun q : PS × σ => WInv p.tn p.fn q.1) (hk _ _ _ _ (h1.of rfl rfl rfl)) (h1.of rfl rfl rfl)

theorem turnsM_sim (A : Alike ask1 ask2 may G Q Z P) (hm : MayOk may) (hM8 : Most ask1) {p : Pg} (hp : PgOk p) : ∀ (k : Nat) {s : PS} {x : σ} {y : τ}, WInv p.tn p.fn s → Q s.heard x y → G (turnsM ask1 p k s x).2 → Rl Q Z P (turnsM ask1 p k s x) (turnsM ask2 p k s y)
  | 0, s, x, y, _, hq, _ => Rl.sync rfl hq
  | k + 1, s, x, y, hw, hq, hg => by
    unfold turnsM at hg ⊢
    by_cases hc : s.fin = 0
    · rw [if_pos hc] at hg ⊢
      rw [if_pos hc]
      have hg1 := turnsM_back A.back p k _ _ hg
      have hw1 := turnM_winv (ask := ask1) hp x hw
      exact (turnM_sim A hm hM8 hp hw hc hq hg1).bind A (fun s x h => turnsM_stop p k s x h) (fun s x h => turnsM_stop p k s x h) (fun s x => turnsM_tr p k s x) (fun _ q => turnsM_sim A hm hM8 hp k hw1 q hg)
    · rw [if_neg hc, if_neg hc]; exact Rl.sync rfl hq

theorem s0_winv (nt nf : Nat) (f : Int) : WInv nt nf (s0 f) := ⟨fun _ h => absurd h Bool.false_ne_true, fun _ h => absurd h Bool.false_ne_true, fun _ h => absurd h Bool.false_ne_true, fun _ _ h => absurd h Bool.false_ne_true⟩

/-- Two runs of one program over two sources that answer alike. -/
theorem runM_sim (A : Alike ask1 ask2 may G Q Z P) (hm : MayOk may) (hM8 : Most ask1) {p : Pg} (hp : PgOk p) (k : Nat) (f : Int) {x : σ} {y : τ} (hq : Q 0 x y) (hg : G (runM ask1 p k f x).2) : Rl Q Z P (runM ask1 p k f x) (runM ask2 p k f y) := by
  unfold runM at hg ⊢
  have hg1 := turnsM_back A.back p k _ _ hg
  have hw := hM_winv (ask := ask1) hp.sr p.sn (s0 (min (max f 0) 5000)) x (Int.le_refl 0) (s0_winv _ _ _)
  exact (hM_sim A hm hp.sr p.sn (s := s0 (min (max f 0) 5000)) (Int.le_refl 0) hq hg1).bind A (fun s x h => turnsM_stop p k s x h) (fun s x h => turnsM_stop p k s x h) (fun s x => turnsM_tr p k s x) (fun _ q => turnsM_sim A hm hM8 hp k hw q hg)

/-- More turns than there are clocks make no difference. -/
theorem turnsM_more {ask : σ → Int → Int → Rep × σ} {mes : σ → Nat} (hs : SrcOk ask mes) (p : Pg) : ∀ (k : Nat) (s : PS) (x : σ), mes x < k → (turnsM ask p k s x).1.fin ≠ 0 ∧ ∀ k', k ≤ k' → turnsM ask p k' s x = turnsM ask p k s x
  | 0, _, _, h => absurd h (Nat.not_lt_zero _)
  | k + 1, s, x, h => by
    by_cases hc : s.fin = 0
    · have e : turnsM ask p (k + 1) s x = turnsM ask p k (turnM ask p s x).1 (turnM ask p s x).2 := by simp only [turnsM]; rw [if_pos hc]
      have e' : ∀ j, turnsM ask p (j + 1) s x = turnsM ask p j (turnM ask p s x).1 (turnM ask p s x).2 := fun j => by simp only [turnsM]; rw [if_pos hc]
      rcases turnM_mes hs p s x with hf | hlt
      · rw [e, turnsM_stop p k _ _ hf]
        refine ⟨hf, fun k' hk => ?_⟩
        obtain ⟨j, rfl⟩ : ∃ j, k' = j + 1 := ⟨k' - 1, by omega⟩
        rw [e' j, turnsM_stop p j _ _ hf]
      · obtain ⟨h1, h2⟩ := turnsM_more hs p k (turnM ask p s x).1 (turnM ask p s x).2 (by omega)
        rw [e]
        refine ⟨h1, fun k' hk => ?_⟩
        obtain ⟨j, rfl⟩ : ∃ j, k' = j + 1 := ⟨k' - 1, by omega⟩
        rw [e' j]
        exact h2 j (by omega)
    · rw [turnsM_stop p (k + 1) s x hc]
      exact ⟨hc, fun k' _ => turnsM_stop p k' s x hc⟩
theorem runM_more {ask : σ → Int → Int → Rep × σ} {mes : σ → Nat} (hs : SrcOk ask mes) (p : Pg) (f : Int) (x : σ) (k : Nat) (h : mes x < k) : (runM ask p k f x).1.fin ≠ 0 ∧ ∀ k', k ≤ k' → runM ask p k' f x = runM ask p k f x := by
  have h1 := hM_mes hs (f := p.sf) (n := p.sn) p.sn (s0 (min (max f 0) 5000)) x
  exact turnsM_more hs p k _ _ (by omega)
end
end Go.Proofs.YtfmbebofllgmoaaGreatDoor
namespace Go.Proofs.YtfmbebofllgmoaaGreatDoor
open Go.RowKit

/-- Inputs of a log that may be heard. -/
def VL := { l : List Inp // ∀ x, x ∈ l → Fit x }
/-- An input as it is answered. -/
def inpR (x : Inp) : Rep := ⟨x.1, x.2.1, x.2.2.1, zs x.2.2.2, 0⟩
def divRep : Rep := ⟨0, 0, 0, [], 6⟩
def VL.tail (y : VL) : VL := ⟨y.1.tail, fun x h => y.2 x (List.mem_of_mem_tail h)⟩
/-- What a replay answers where these inputs are next. -/
def repR (l : List Inp) (k o : Int) : Rep := match l with
  | [] => noRep
  | x :: _ => if x.1 = 5 ∧ x.2.2.1 = 5 then noRep else if (x.1 : Int) ≠ k ∨ (x.2.1 : Int) ≠ o then divRep else inpR x
def repAsk (y : VL) (k o : Int) : Rep × VL := (repR y.1 k o, y.tail)
theorem repR_zero {l : List Inp} {k o : Int} (h : (repR l k o).e = 0) : ∃ x r, l = x :: r ∧ repR l k o = inpR x ∧ (x.1 : Int) = k ∧ (x.2.1 : Int) = o := by
  cases l with
  | nil => simp [repR, noRep] at h
  | cons x r =>
    simp only [repR] at h ⊢
    by_cases h5 : x.1 = 5 ∧ x.2.2.1 = 5
    · rw [if_pos h5] at h; simp [noRep] at h
    · rw [if_neg h5] at h ⊢
      by_cases hk : (x.1 : Int) ≠ k ∨ (x.2.1 : Int) ≠ o
      · rw [if_pos hk] at h; simp [divRep] at h
      · rw [if_neg hk]
        exact ⟨x, r, rfl, rfl, by omega, by omega⟩
theorem repR_end (l : List Inp) (k o : Int) : (repR l k o).e = 0 ∨ repR l k o = noRep ∨ repR l k o = divRep := by
  cases l with
  | nil => exact .inr (.inl rfl)
  | cons x r =>
    simp only [repR]
    split
    · exact .inr (.inl rfl)
    · split
      · exact .inr (.inr rfl)
      · exact .inl rfl
theorem Fit.clock {x : Inp} (h : Fit x) (e : x.1 = 1) : x.2.2.1 ≤ 1099511627776 := by
  rcases h with h | h | h | h | h
  · exact h.2.2.1
  all_goals (have := h.1; omega)
theorem Fit.pick {x : Inp} (h : Fit x) (e : x.1 = 3) : x.2.2.1 < x.2.1 := by
  rcases h with h | h | h | h | h
  · have := h.1; omega
  · have := h.1; omega
  · exact h.2.2.2.1
  · have := h.1; omega
  · have := h.1; omega
theorem Fit.files {x : Inp} (h : Fit x) : x.2.2.2.length ≤ 8 ∧ ∀ f, f ∈ x.2.2.2 → f < 8 := by
  have nil : x.2.2.2 = [] → x.2.2.2.length ≤ 8 ∧ ∀ f, f ∈ x.2.2.2 → f < 8 := fun e => by rw [e]; exact ⟨by simp, fun _ h => absurd h (by simp)⟩
  rcases h with h | h | h | h | h
  · exact nil h.2.2.2
  · obtain ⟨g1, g2⟩ := risL_len x.2.2.2 (-1) (by omega) (by omega) h.2.2.2
    exact ⟨by omega, g2⟩
  · exact nil h.2.2.2.2
  · exact nil h.2.2.2.2
  · exact nil h.2.2.2.2
theorem repAsk_ok : SrcOk repAsk (fun y => y.1.length) := by
  refine ⟨?_, ?_, ?_, ?_, ?_, ?_⟩
  · intro y k o; show y.1.tail.length ≤ y.1.length; rw [List.length_tail]; omega
  · intro y h
    obtain ⟨x, r, e, _⟩ := repR_zero h
    show y.1.tail.length < y.1.length
    rw [e]; simp
  · intro y h
    obtain ⟨x, r, e, e2, hk, _⟩ := repR_zero h
    have hx := (y.2 x (by rw [e]; exact List.mem_cons_self ..)).clock (by omega)
    show 0 ≤ (repR y.1 1 0).n ∧ (repR y.1 1 0).n ≤ 1099511627776
    rw [e2]
    show (0 : Int) ≤ (x.2.2.1 : Int) ∧ (x.2.2.1 : Int) ≤ 1099511627776
    omega
  · intro y n _ _ h
    obtain ⟨x, r, e, e2, hk, ho⟩ := repR_zero h
    have hx := (y.2 x (by rw [e]; exact List.mem_cons_self ..)).pick (by omega)
    show 0 ≤ (repR y.1 3 n).n ∧ (repR y.1 3 n).n < n
    rw [e2]
    show (0 : Int) ≤ (x.2.2.1 : Int) ∧ (x.2.2.1 : Int) < n
    omega
  · intro y z h
    change z ∈ (repR y.1 2 0).files at h
    rcases repR_end y.1 2 0 with h0 | h0 | h0
    · obtain ⟨x, r, e, e2, _⟩ := repR_zero h0
      rw [e2] at h
      obtain ⟨f, hf, rfl⟩ := List.mem_map.1 h
      have := (y.2 x (by rw [e]; exact List.mem_cons_self ..)).files.2 f hf
      exact ⟨Int.natCast_nonneg f, by show (f : Int) < 8; omega⟩
    · rw [h0] at h; simp [noRep] at h
    · rw [h0] at h; simp [divRep] at h
  · intro y
    show (repR y.1 2 0).files.length ≤ 8
    rcases repR_end y.1 2 0 with h0 | h0 | h0
    · obtain ⟨x, r, e, e2, _⟩ := repR_zero h0
      rw [e2]
      have := (y.2 x (by rw [e]; exact List.mem_cons_self ..)).files.1
      show (zs x.2.2.2).length ≤ 8
      simp [zs]; exact this
    · rw [h0]; simp [noRep]
    · rw [h0]; simp [divRep]
theorem repAsk_end : EndOk repAsk := by
  intro y k o
  show 0 ≤ (repR y.1 k o).e ∧ (repR y.1 k o).e ≤ 6
  rcases repR_end y.1 k o with h0 | h0 | h0
  · rw [h0]; omega
  · rw [h0]; simp [noRep]
  · rw [h0]; simp [divRep]

/-- A source, what was heard of it, and whether it has ended the run. -/
structure GS (σ : Type) where
  x : σ
  l : List Inp
  z : Bool
/-- An answer as an input. -/
def inpOf (R : Rep) : Inp := (R.kind.toNat, R.of.toNat, R.n.toNat, R.files.map Int.toNat)
def gAsk {σ : Type} (ask : σ → Int → Int → Rep × σ) (y : GS σ) (k o : Int) : Rep × GS σ :=
  if y.z then (noRep, y) else if (ask y.x k o).1.e = 0 then ((ask y.x k o).1, ⟨(ask y.x k o).2, y.l ++ [inpOf (ask y.x k o).1], false⟩) else ((ask y.x k o).1, ⟨(ask y.x k o).2, y.l, true⟩)
section
variable {σ : Type} {ask : σ → Int → Int → Rep × σ} {may : Int → Int → Prop}
theorem gAsk_zero {y : GS σ} {k o : Int} (hz : y.z = false) (h : (ask y.x k o).1.e = 0) : gAsk ask y k o = ((ask y.x k o).1, ⟨(ask y.x k o).2, y.l ++ [inpOf (ask y.x k o).1], false⟩) := by
  unfold gAsk; rw [hz, if_neg (by simp), if_pos h]
theorem gAsk_end {y : GS σ} {k o : Int} (hz : y.z = false) (h : (ask y.x k o).1.e ≠ 0) : gAsk ask y k o = ((ask y.x k o).1, ⟨(ask y.x k o).2, y.l, true⟩) := by
  unfold gAsk; rw [hz, if_neg (by simp), if_neg h]
theorem gAsk_most (h : Most ask) : Most (gAsk ask) := by
  intro y
  unfold gAsk
  split
  · simp [noRep]
  · split
    · exact h y.x
    · exact h y.x
theorem ghost_run (hm : MayOk may) (hM8 : Most ask) {p : Pg} (hp : PgOk p) {I : Int → GS σ → Prop} {E : Int → Prop} {x : σ} (h0 : I 0 ⟨x, [], false⟩)
    (hs : ∀ h y k o, may k o → y.z = false → I h y → (ask y.x k o).1.e = 0 → I (wrap64 (h + 1)) ⟨(ask y.x k o).2, y.l ++ [inpOf (ask y.x k o).1], false⟩)
    (he : ∀ h y k o, may k o → y.z = false → I h y → (ask y.x k o).1.e ≠ 0 → I h ⟨(ask y.x k o).2, y.l, true⟩ ∧ E (ask y.x k o).1.e) (k : Nat) (f : Int) :
    ∃ y, runM (gAsk ask) p k f ⟨x, [], false⟩ = ((runM ask p k f x).1, y) ∧ y.x = (runM ask p k f x).2 ∧ I (runM ask p k f x).1.heard y ∧ (y.z = true → E (runM ask p k f x).1.fin) := by
  have A : Alike ask (gAsk ask) may (fun _ => True) (fun h x y => y.x = x ∧ y.z = false ∧ I h y) (fun e h x y => y.x = x ∧ I h y ∧ E e) (fun _ _ => False) := by
    refine ⟨fun _ _ _ _ => trivial, ?_, fun _ _ _ h => h.elim⟩
    rintro h x y k o hmay ⟨rfl, hz, hi⟩ _
    refine .inl ?_
    by_cases e : (ask y.x k o).1.e = 0
    · rw [gAsk_zero hz e]
      exact ⟨rfl, fun _ => ⟨rfl, rfl, hs h y k o hmay hz hi e⟩, fun h' => absurd e h'⟩
    · rw [gAsk_end hz e]
      exact ⟨rfl, fun h' => absurd h' e, fun _ => ⟨rfl, (he h y k o hmay hz hi e).1, (he h y k o hmay hz hi e).2⟩⟩
  rcases runM_sim A hm hM8 hp k f (x := x) (y := ⟨x, [], false⟩) ⟨rfl, rfl, h0⟩ trivial with ⟨e, hq⟩ | ⟨_, hf⟩
  · refine ⟨(runM (gAsk ask) p k f ⟨x, [], false⟩).2, by rw [e], ?_⟩
    rcases hq with ⟨h1, h2, h3⟩ | ⟨_, h1, h2, h3⟩
    · exact ⟨h1, h3, fun h => by rw [h2] at h; cases h⟩
    · exact ⟨h1, h2, fun _ => h3⟩
  · exact hf.elim

/-- What was heard so far is a beginning of H; where the source has ended the run it is H, and e holds. -/
def Upto (H : List Inp) (e : Prop) (y : GS σ) : Prop := y.l <+: H ∧ (y.z = true → y.l = H ∧ e)
theorem upto_back {H : List Inp} {e : Prop} (y : GS σ) (k o : Int) (h : Upto H e (gAsk ask y k o).2) : Upto H e y := by
  unfold gAsk at h
  by_cases hz : y.z = true
  · rw [if_pos hz] at h; exact h
  · rw [if_neg hz] at h
    refine ⟨?_, fun h' => absurd h' hz⟩
    by_cases he : (ask y.x k o).1.e = 0
    · rw [if_pos he] at h
      exact List.IsPrefix.trans (List.prefix_append _ _) h.1
    · rw [if_neg he] at h; exact h.1
end

/-! ### The recorder's answers -/
theorem zs_toNat : ∀ (l : List Int), (∀ z, z ∈ l → 0 ≤ z) → zs (l.map Int.toNat) = l
  | [], _ => rfl
  | a :: t, h => by
    have h1 := h a (List.mem_cons_self ..)
    have e : zs ((a :: t).map Int.toNat) = (a.toNat : Int) :: zs (t.map Int.toNat) := rfl
    rw [e, zs_toNat t (fun z hz => h z (List.mem_cons_of_mem _ hz)), Int.toNat_of_nonneg h1]
theorem risL_of : ∀ (l : List Int) (last : Int), (∀ z, z ∈ l → last < z ∧ z < 8) → l.Pairwise (· < ·) → risL last l = true
  | [], _, _, _ => rfl
  | a :: t, last, h, hp => by
    have h1 := h a (List.mem_cons_self ..)
    simp only [risL]
    rw [if_neg (by omega)]
    obtain ⟨p1, p2⟩ := List.pairwise_cons.1 hp
    exact risL_of t a (fun z hz => ⟨p1 z hz, (h z (List.mem_cons_of_mem _ hz)).2⟩) p2
theorem filesL_ris (l : List Int) : risL (-1) (filesL l) = true := by
  refine risL_of _ _ (fun z hz => by have := filesL_mem l z hz; omega) ?_
  unfold filesL filesK
  refine List.pairwise_map.2 ?_
  refine List.Pairwise.imp ?_ (List.Pairwise.filter _ List.pairwise_lt_range)
  intro a b h
  omega
theorem bs_one (k : Nat) (h : k < 256) : bs (one k) = [k] := by
  unfold one; rw [bs_push, bs_empty, List.nil_append, UInt8.toNat_ofNat']; congr 1; omega
theorem bs_filesS : ∀ (l : List Int) (r : ByteArray), bs (filesS l r) = bs r ++ vbs (l.map Int.toNat)
  | [], r => by simp [filesS, vbs]
  | a :: t, r => by
    have e : filesS (a :: t) r = filesS t (r ++ varS a.toNat) := rfl
    rw [e, bs_filesS t, bs_append, List.append_assoc]
    rfl
theorem bs_batch (l : List Int) (o n : Nat) : bs (batchS l) = bodyL (2, o, n, l.map Int.toNat) := by
  have e : bodyL (2, o, n, l.map Int.toNat) = 2 :: vbs ((l.map Int.toNat).length :: l.map Int.toNat) := rfl
  rw [e]
  unfold batchS
  rw [bs_filesS, bs_append, bs_one 2 (by omega), vbs_cons, List.length_map]
  simp [vb]
theorem bs_body1 (k o n : Nat) (fs : List Nat) (h : k = 1 ∨ k = 5) : bs (bodyS k 0 n) = bodyL (k, o, n, fs) := by
  have e : bodyL (k, o, n, fs) = k :: (vb n ++ []) := by rcases h with rfl | rfl <;> rfl
  rw [e]
  unfold bodyS
  rw [if_neg (by omega), bs_append, bs_one k (by omega), List.append_nil]
  rfl
theorem bs_body2 (k o n : Nat) (fs : List Nat) (h : k = 3 ∨ k = 4) : bs (bodyS k o n) = bodyL (k, o, n, fs) := by
  have e : bodyL (k, o, n, fs) = k :: (vb o ++ (vb n ++ [])) := by rcases h with rfl | rfl <;> rfl
  rw [e]
  unfold bodyS
  rw [if_pos h, bs_append, bs_append, bs_one k (by omega), List.append_nil, List.append_assoc]
  rfl
theorem bs_frame {b : ByteArray} {x : Inp} (hf : Fit x) (h : bs b = bodyL x) : bs (frameS b) = frL x := by
  have hl := bodyL_len hf
  have hs : b.size = (bodyL x).length := by rw [← bs_len, h]
  unfold frameS frL
  rw [bs_append, bs_append, ← sm_bs, h, hs]
  have : bs (varS (bodyL x).length) = [(bodyL x).length] := vb_small _ (by omega)
  rw [this]; simp
/-- The recorder's answer is an input of the kind that was asked for; it is written down. -/
theorem rec_ans {x : RS} {k o : Int} (hm : mayR k o) (h : (recAsk x k o).1.e = 0) : (recAsk x k o).1.kind = k ∧ (recAsk x k o).1.of = o ∧ Fit (inpOf (recAsk x k o).1) ∧ (inpOf (recAsk x k o).1).1 ≠ 5 ∧ inpR (inpOf (recAsk x k o).1) = (recAsk x k o).1 ∧
    bs (recAsk x k o).2.log = bs x.log ++ frL (inpOf (recAsk x k o).1) ∧ (recAsk x k o).2.left + 1 = x.left := by
  rcases hm with ⟨rfl, rfl⟩ | ⟨rfl, rfl⟩ | ⟨rfl, h2, h8⟩ | ⟨rfl, h1, hM⟩
  · simp only [recAsk, if_true] at h ⊢
    split at h
    · simp [noRep] at h
    · rename_i n r hx
      have hc : 0 ≤ clampC n ∧ clampC n ≤ 1099511627776 := by unfold clampC; omega
      have hf : Fit (1, 0, (clampC n).toNat, []) := .inl ⟨rfl, rfl, by show (clampC n).toNat ≤ _; omega, rfl⟩
      have ei : inpOf ⟨1, 0, clampC n, [], 0⟩ = (1, 0, (clampC n).toNat, []) := rfl
      rw [ei]
      refine ⟨rfl, rfl, hf, by show (1 : Nat) ≠ 5; omega, ?_, ?_, ?_⟩
      · have : ((clampC n).toNat : Int) = clampC n := by omega
        simp [inpR, zs, this]
      · show bs (x.log ++ frameS (bodyS 1 0 (clampC n).toNat)) = _
        rw [bs_append, bs_frame hf (bs_body1 1 0 _ [] (.inl rfl))]
      · simp only [RS.left, hx, List.length_cons]; omega
  · have e1 : ¬ (2 : Int) = 1 := by omega
    simp only [recAsk, e1, if_false, if_true] at h ⊢
    split at h
    · simp [noRep] at h
    · rename_i b r hx
      have hz : ∀ z, z ∈ filesL b.2 → 0 ≤ z := fun z hz => (filesL_mem b.2 z hz).1
      have hf : Fit (2, 0, 0, (filesL b.2).map Int.toNat) := .inr (.inl ⟨rfl, rfl, rfl, by show risL (-1) (zs ((filesL b.2).map Int.toNat)) = true; rw [zs_toNat _ hz]; exact filesL_ris _⟩)
      have ei : inpOf ⟨2, 0, 0, filesL b.2, 0⟩ = (2, 0, 0, (filesL b.2).map Int.toNat) := rfl
      rw [ei]
      refine ⟨rfl, rfl, hf, by show (2 : Nat) ≠ 5; omega, ?_, ?_, ?_⟩
      · show (⟨2, 0, 0, zs ((filesL b.2).map Int.toNat), 0⟩ : Rep) = _
        rw [zs_toNat _ hz]
      · show bs (x.log ++ frameS (batchS (filesL b.2))) = _
        rw [bs_append, bs_frame hf (bs_batch _ 0 0)]
      · simp only [RS.left, hx, List.length_cons]; omega
  · have e1 : ¬ (3 : Int) = 1 := by omega
    have e2 : ¬ (3 : Int) = 2 := by omega
    simp only [recAsk, e1, e2, if_false, if_true] at h ⊢
    split at h
    · simp [noRep] at h
    · rename_i n r hx
      have b1 : 0 ≤ n % o := Int.emod_nonneg _ (by omega)
      have b2 : n % o < o := Int.emod_lt_of_pos _ (by omega)
      have hf : Fit (3, o.toNat, (n % o).toNat, []) := .inr (.inr (.inl ⟨rfl, by show 2 ≤ o.toNat; omega, by show o.toNat ≤ 8; omega, by show (n % o).toNat < o.toNat; omega, rfl⟩))
      have ei : inpOf ⟨3, o, n % o, [], 0⟩ = (3, o.toNat, (n % o).toNat, []) := rfl
      rw [ei]
      refine ⟨rfl, rfl, hf, by show (3 : Nat) ≠ 5; omega, ?_, ?_, ?_⟩
      · have q1 : ((n % o).toNat : Int) = n % o := by omega
        have q2 : (o.toNat : Int) = o := by omega
        simp [inpR, zs, q1, q2]
      · show bs (x.log ++ frameS (bodyS 3 o.toNat (n % o).toNat)) = _
        rw [bs_append, bs_frame hf (bs_body2 3 _ _ [] (.inl rfl))]
      · simp only [RS.left, hx, List.length_cons]; omega
  · have e1 : ¬ (4 : Int) = 1 := by omega
    have e2 : ¬ (4 : Int) = 2 := by omega
    have e3 : ¬ (4 : Int) = 3 := by omega
    simp only [recAsk, e1, e2, e3, if_false] at h ⊢
    split at h
    · simp [noRep] at h
    · rename_i n r hx
      have b1 : 0 ≤ n % o := Int.emod_nonneg _ (by omega)
      have b2 : n % o < o := Int.emod_lt_of_pos _ (by omega)
      have hf : Fit (4, o.toNat, (n % o).toNat, []) := .inr (.inr (.inr (.inl ⟨rfl, by show 1 ≤ o.toNat; omega, by show o.toNat ≤ 1000000; omega, by show (n % o).toNat < o.toNat; omega, rfl⟩)))
      have ei : inpOf ⟨4, o, n % o, [], 0⟩ = (4, o.toNat, (n % o).toNat, []) := rfl
      rw [ei]
      refine ⟨rfl, rfl, hf, by show (4 : Nat) ≠ 5; omega, ?_, ?_, ?_⟩
      · have q1 : ((n % o).toNat : Int) = n % o := by omega
        have q2 : (o.toNat : Int) = o := by omega
        simp [inpR, zs, q1, q2]
      · show bs (x.log ++ frameS (bodyS 4 o.toNat (n % o).toNat)) = _
        rw [bs_append, bs_frame hf (bs_body2 4 _ _ [] (.inr rfl))]
      · simp only [RS.left, hx, List.length_cons]; omega
theorem rec_none (x : RS) (k o : Int) (h : (recAsk x k o).1.e ≠ 0) : recAsk x k o = (noRep, x) := by
  unfold recAsk at h ⊢
  split
  · rename_i hk
    rw [if_pos hk] at h
    split
    · rfl
    · rename_i hx; rw [hx] at h; exact absurd rfl h
  · rename_i hk
    rw [if_neg hk] at h
    split
    · rename_i hk2
      rw [if_pos hk2] at h
      split
      · rfl
      · rename_i hx; rw [hx] at h; exact absurd rfl h
    · rename_i hk2
      rw [if_neg hk2] at h
      split
      · rename_i hk3
        rw [if_pos hk3] at h
        split
        · rfl
        · rename_i hx; rw [hx] at h; exact absurd rfl h
      · rename_i hk3
        rw [if_neg hk3] at h
        split
        · rfl
        · rename_i hx; rw [hx] at h; exact absurd rfl h
end Go.Proofs.YtfmbebofllgmoaaGreatDoor
namespace Go.Proofs.YtfmbebofllgmoaaGreatDoor
open Go.RowKit

/-- How a run may end, N being the greatest end. -/
def FinIn (N : Int) (s : PS) : Prop := 0 ≤ s.fin ∧ s.fin ≤ N
section
variable {σ : Type} {ask : σ → Int → Int → Rep × σ} {N : Int}
def EndIn (N : Int) (ask : σ → Int → Int → Rep × σ) : Prop := ∀ x k o, 0 ≤ (ask x k o).1.e ∧ (ask x k o).1.e ≤ N
theorem ckS_in (hN : 4 ≤ N) {s : PS} {R : Rep} (h : FinIn N s) (hR : 0 ≤ R.e ∧ R.e ≤ N) : FinIn N (ckS s R) := by
  unfold ckS
  exact ite_ok (P := FinIn N) (ite_ok (P := FinIn N) ⟨by show (0 : Int) ≤ 4; omega, by show (4 : Int) ≤ N; omega⟩ h) hR
theorem opM_in (hN : 4 ≤ N) (he : EndIn N ask) (o : O3) (s : PS) (x : σ) (h : FinIn N s) : FinIn N (opM ask o s x).1 := by
  unfold opM
  have h1 := ckS_in hN h (he x 1 0)
  repeat' (refine ite_ok (P := fun q : PS × σ => FinIn N q.1) ?_ ?_)
  all_goals first
    | exact h
    | exact ite_ok (P := FinIn N) h1 h1
    | exact ite_ok (P := FinIn N) h (he x 4 _)
    | exact ite_ok (P := FinIn N) h h
    | exact ⟨by show (0 : Int) ≤ 1; omega, by show (1 : Int) ≤ N; omega⟩
theorem hM_in (hN : 4 ≤ N) (he : EndIn N ask) {f : Nat → O3} {n : Nat} : ∀ (k : Nat) (s : PS) (x : σ), FinIn N s → FinIn N (hM ask f n k s x).1
  | 0, _, _, h => h
  | k + 1, s, x, h => by
    unfold hM
    refine ite_ok (P := fun q : PS × σ => FinIn N q.1) (ite_ok (P := fun q : PS × σ => FinIn N q.1) ⟨by show (0 : Int) ≤ 3; omega, by show (3 : Int) ≤ N; omega⟩ ?_) h
    exact hM_in hN he k _ _ (opM_in hN he _ _ _ h)
theorem frM_in (hN : 4 ≤ N) (he : EndIn N ask) (p : Pg) : ∀ (l : List TM) (s : PS) (x : σ), FinIn N s → FinIn N (frM (gT ask p) l s x).1
  | [], _, _, h => h
  | t :: r, s, x, h => by
    unfold frM
    refine ite_ok (P := fun q : PS × σ => FinIn N q.1) h (ite_ok (P := fun q : PS × σ => FinIn N q.1) ?_ (frM_in hN he p r s x h))
    exact frM_in hN he p r _ _ (hM_in hN he _ _ _ h)
theorem wkM_in (hN : 4 ≤ N) (he : EndIn N ask) (p : Pg) : ∀ (k : Nat) (l : List Int) (s : PS) (x : σ), FinIn N s → FinIn N (wkM ask (gF ask p) k l s x).1
  | 0, _, _, _, h => h
  | k + 1, l, s, x, h => by
    have h1 : FinIn N (pk ask l.length s x).2.2.1 := by
      unfold pk
      exact ite_ok (P := fun q : Int × Bool × PS × σ => FinIn N q.2.2.1) h (ite_ok (P := FinIn N) h (he x 3 l.length))
    have h2 : ∀ z x', FinIn N (wk1 (gF ask p) z (pk ask l.length s x).2.2.1 x').1 := fun z x' => by
      unfold wk1
      exact ite_ok (P := fun q : PS × σ => FinIn N q.1) (hM_in hN he _ _ _ h1) h1
    unfold wkM
    exact ite_ok (P := fun q : PS × σ => FinIn N q.1) h (ite_ok (P := fun q : PS × σ => FinIn N q.1) (wkM_in hN he p k _ _ _ (h2 _ _)) h1)
theorem turnM_in (hN : 4 ≤ N) (he : EndIn N ask) (p : Pg) (s : PS) (x : σ) (h : FinIn N s) : FinIn N (turnM ask p s x).1 := by
  have h1 := ckS_in hN h (he x 1 0)
  have h2 := frM_in hN he p (dueS (ckS s (ask x 1 0).1)) _ (ask x 1 0).2 h1
  have h3 : ∀ (s : PS) (x : σ), FinIn N s → FinIn N (wakeM ask p s x).1 := fun s x h => by
    unfold wakeM
    exact ite_ok (P := fun q : PS × σ => FinIn N q.1) (wkM_in hN he p _ _ _ _ h) (he x 2 0)
  unfold turnM
  exact ite_ok (P := fun q : PS × σ => FinIn N q.1) ⟨by show (0 : Int) ≤ 2; omega, by show (2 : Int) ≤ N; omega⟩ (ite_ok (P := fun q : PS × σ => FinIn N q.1) (ite_ok (P := fun q : PS × σ => FinIn N q.1) (h3 _ _ h2) h2) h1)
theorem runM_in (hN : 4 ≤ N) (he : EndIn N ask) (p : Pg) (k : Nat) (f : Int) (x : σ) : FinIn N (runM ask p k f x).1 := by
  have ht : ∀ (k : Nat) (s : PS) (x : σ), FinIn N s → FinIn N (turnsM ask p k s x).1 := by
    intro k
    induction k with
    | zero => intro s x h; exact h
    | succ k ih =>
      intro s x h
      unfold turnsM
      exact ite_ok (P := fun q : PS × σ => FinIn N q.1) (ih _ _ (turnM_in hN he p s x h)) h
  unfold runM
  exact ht k _ _ (hM_in hN he _ _ _ ⟨by show (0 : Int) ≤ 0; omega, by show (0 : Int) ≤ N; omega⟩)
end
theorem recAsk_in : EndIn 5 recAsk := by
  intro x k o
  by_cases h : (recAsk x k o).1.e = 0
  · rw [h]; omega
  · rw [rec_none x k o h]; simp [noRep]

/-- The end of a replay: its own, held against what is next. -/
def endR (own : Int) (l : List Inp) : Int := if own = 5 ∨ own = 6 then own else match l with
  | [] => own
  | x :: _ => if x.1 = 5 ∧ (x.2.2.1 : Int) = own then own else 6
/-- What a replay ends with. -/
def repM (p : Pg) (f : Int) (y : VL) : PS × VL := runM repAsk p (y.1.length + 1) f y

theorem gAsk_ok {σ : Type} {ask : σ → Int → Int → Rep × σ} {mes : σ → Nat} (h : SrcOk ask mes) : SrcOk (gAsk ask) (fun y => mes y.x) := by
  refine ⟨?_, ?_, ?_, ?_, ?_, gAsk_most h.most⟩
  · intro y k o
    unfold gAsk
    split
    · exact Nat.le_refl _
    · split
      · exact h.le y.x k o
      · exact h.le y.x k o
  · intro y he
    unfold gAsk at he ⊢
    split at he
    · simp [noRep] at he
    · rename_i hz
      rw [if_neg hz]
      split at he
      · rename_i h0; rw [if_pos h0]; exact h.lt y.x h0
      · rename_i h0; exact absurd he h0
  · intro y he
    unfold gAsk at he ⊢
    split at he
    · simp [noRep] at he
    · rename_i hz
      rw [if_neg hz]
      split at he
      · rename_i h0; rw [if_pos h0]; exact h.clock y.x h0
      · rename_i h0; exact absurd he h0
  · intro y n h2 h8 he
    unfold gAsk at he ⊢
    split at he
    · simp [noRep] at he
    · rename_i hz
      rw [if_neg hz]
      split at he
      · rename_i h0; rw [if_pos h0]; exact h.pick y.x n h2 h8 h0
      · rename_i h0; exact absurd he h0
  · intro y z hz
    unfold gAsk at hz
    split at hz
    · simp [noRep] at hz
    · split at hz
      · exact h.files y.x z hz
      · exact h.files y.x z hz

theorem frs_snoc (l : List Inp) (x : Inp) : frs (l ++ [x]) = frs l ++ frL x := by unfold frs; simp
theorem bs_head : bs headS = hd3 := by
  unfold headS
  rw [bs_push, bs_push, bs_push, bs_empty]
  rfl
/-- What holds of a recorder and what was heard of it. -/
def RecI (M : Nat) (h : Int) (y : GS RS) : Prop := h = y.l.length ∧ bs y.x.log = hd3 ++ frs y.l ∧ (∀ i, i ∈ y.l → Fit i ∧ i.1 ≠ 5) ∧ y.l.length + y.x.left ≤ M
theorem wrap_succ (n : Nat) (h : n ≤ 50000000) : wrap64 ((n : Int) + 1) = ((n + 1 : Nat) : Int) := by unfold wrap64; omega
theorem recI_step {M : Nat} (hM : M ≤ 50000000) (h : Int) (y : GS RS) (k o : Int) (hm : mayR k o) (_ : y.z = false) (hi : RecI M h y) (he : (recAsk y.x k o).1.e = 0) : RecI M (wrap64 (h + 1)) ⟨(recAsk y.x k o).2, y.l ++ [inpOf (recAsk y.x k o).1], false⟩ := by
  obtain ⟨h1, h2, h3, h4⟩ := hi
  obtain ⟨_, _, a3, a4, _, a6, a7⟩ := rec_ans hm he
  refine ⟨?_, ?_, ?_, ?_⟩
  · show wrap64 (h + 1) = ((y.l ++ [inpOf (recAsk y.x k o).1]).length : Int)
    rw [h1, wrap_succ _ (by omega), List.length_append]; rfl
  · show bs (recAsk y.x k o).2.log = hd3 ++ frs (y.l ++ [inpOf (recAsk y.x k o).1])
    rw [a6, h2, frs_snoc, List.append_assoc]
  · intro i hi
    rcases List.mem_append.1 hi with hi | hi
    · exact h3 i hi
    · rw [List.mem_singleton.1 hi]; exact ⟨a3, a4⟩
  · show (y.l ++ [inpOf (recAsk y.x k o).1]).length + (recAsk y.x k o).2.left ≤ M
    rw [List.length_append]; simp only [List.length_cons, List.length_nil]; omega

/-- A recorded run: what it heard, and how. -/
structure RecRun (p : Pg) (f : Int) (x : RS) (s : PS) (xs : List Inp) : Prop where
  fit : ∀ i, i ∈ xs → Fit i ∧ i.1 ≠ 5
  heard : s.heard = xs.length
  fin : 1 ≤ s.fin ∧ s.fin ≤ 5
  small : xs.length ≤ 50000000
  ghost : ∃ k0 y, (∀ k, k0 ≤ k → runM (gAsk recAsk) p k f ⟨x, [], false⟩ = (s, y)) ∧ y.l = xs ∧ (y.z = true → s.fin = 5)
theorem rec_run {p : Pg} (hp : PgOk p) (f : Int) (lc : List Int) (bt : List (Value × List Int)) (lp ll : List Int) (hN : lc.length + bt.length + lp.length + ll.length ≤ 50000000) :
    ∃ xs, RecRun p f ⟨lc, bt, lp, ll, headS⟩ (recM p f lc bt lp ll).1 xs ∧ bs (recLog (recM p f lc bt lp ll)) = logL xs (recM p f lc bt lp ll).1.fin.toNat ∧ xs.length ≤ lc.length + bt.length + lp.length + ll.length := by
  obtain ⟨y, hrun, hx, hI, hz⟩ := ghost_run mayR_ok recAsk_ok.most hp (I := RecI (lc.length + bt.length + lp.length + ll.length)) (E := fun e => e = 5) (x := (⟨lc, bt, lp, ll, headS⟩ : RS)) ⟨rfl, by rw [bs_head]; simp [frs], fun i h => absurd h (by simp), by show 0 + (lc.length + bt.length + lp.length + ll.length) ≤ lc.length + bt.length + lp.length + ll.length; omega⟩ (recI_step hN)
    (fun h y k o hm hz hi he => ⟨by rw [rec_none y.x k o he]; exact hi, by rw [rec_none y.x k o he]; rfl⟩) (lc.length + 1) f
  have hmore := runM_more (gAsk_ok recAsk_ok) p f ⟨(⟨lc, bt, lp, ll, headS⟩ : RS), [], false⟩ (lc.length + 1) (Nat.lt_succ_self _)
  have hfin := runM_in (by omega) recAsk_in p (lc.length + 1) f (⟨lc, bt, lp, ll, headS⟩ : RS)
  have hne := (runM_more recAsk_ok p f (⟨lc, bt, lp, ll, headS⟩ : RS) (lc.length + 1) (Nat.lt_succ_self _)).1
  have hr : recM p f lc bt lp ll = runM recAsk p (lc.length + 1) f ⟨lc, bt, lp, ll, headS⟩ := rfl
  rw [← hr] at hrun hx hI hz hfin hne
  obtain ⟨i1, i2, i3, i4⟩ := hI
  have hf1 : 1 ≤ (recM p f lc bt lp ll).1.fin ∧ (recM p f lc bt lp ll).1.fin ≤ 5 := by have h1 := hfin.1; have h2 := hfin.2; omega
  refine ⟨y.l, ⟨i3, i1, hf1, by omega, lc.length + 1, y, fun k hk => by rw [hmore.2 k hk, hrun], rfl, hz⟩, ?_, by omega⟩
  have he := fit_end (recM p f lc bt lp ll).1.fin.toNat (by omega) (by omega)
  unfold recLog
  rw [bs_append, ← hx, i2, bs_frame he (bs_body1 5 0 _ [] (.inr rfl)), List.append_assoc]
  rfl

/-- The recorder's answer where it is next in a log. -/
theorem rep_next {x : RS} {k o : Int} (hm : mayR k o) (he : (recAsk x k o).1.e = 0) (r : List Inp) : repR (inpOf (recAsk x k o).1 :: r) k o = (recAsk x k o).1 := by
  obtain ⟨a1, a2, _, a4, a5, _⟩ := rec_ans hm he
  have hk : 0 ≤ k ∧ 0 ≤ o := by
    rcases hm with ⟨rfl, rfl⟩ | ⟨rfl, rfl⟩ | ⟨rfl, h, _⟩ | ⟨rfl, h, _⟩ <;> omega
  have e1 : (((inpOf (recAsk x k o).1).1 : Nat) : Int) = k := by show (((recAsk x k o).1.kind.toNat : Nat) : Int) = k; rw [a1]; omega
  have e2 : (((inpOf (recAsk x k o).1).2.1 : Nat) : Int) = o := by show (((recAsk x k o).1.of.toNat : Nat) : Int) = o; rw [a2]; omega
  simp only [repR]
  rw [if_neg (fun h => a4 h.1), if_neg (by omega), a5]

/-- A run that was recorded is had again. -/
theorem RecRun.same {p : Pg} (hp : PgOk p) {f : Int} {x : RS} {s : PS} {xs : List Inp} (h : RecRun p f x s xs) (y : VL) (hy : y.1 = alls xs s.fin.toNat) : (repM p f y).1 = s ∧ endR s.fin (repM p f y).2.1 = s.fin := by
  obtain ⟨k0, g, hg, hl, hz⟩ := h.ghost
  have hf := h.fin
  have A : Alike (gAsk recAsk) repAsk mayR (Upto xs (s.fin = 5)) (fun _ a b => a.z = false ∧ a.l ++ b.1 = alls xs s.fin.toNat) (fun e _ _ _ => e = 5) (fun _ _ => False) := by
    refine ⟨fun a k o => upto_back a k o, ?_, fun _ _ _ h => h.elim⟩
    rintro t a b k o hm ⟨ha, hab⟩ hG
    refine .inl ?_
    by_cases he : (recAsk a.x k o).1.e = 0
    · rw [gAsk_zero ha he] at hG ⊢
      obtain ⟨r, hr⟩ := hG.1
      have hr' : xs = a.l ++ inpOf (recAsk a.x k o).1 :: r := by rw [← hr]; simp
      have hb : b.1 = inpOf (recAsk a.x k o).1 :: (r ++ [(5, 0, s.fin.toNat, [])]) := by
        unfold alls at hab
        rw [hr', List.append_assoc] at hab
        exact List.append_cancel_left hab
      refine ⟨?_, fun _ => ⟨rfl, ?_⟩, fun h' => absurd he h'⟩
      · show _ = repR b.1 k o
        rw [hb, rep_next hm he]
      · show (a.l ++ [inpOf (recAsk a.x k o).1]) ++ b.1.tail = alls xs s.fin.toNat
        rw [← hab, hb]; simp
    · rw [gAsk_end ha he] at hG ⊢
      obtain ⟨e1, e2⟩ := hG.2 rfl
      have hb : b.1 = [(5, 0, 5, [])] := by
        unfold alls at hab
        have e1' : a.l = xs := e1
        rw [e1', e2] at hab
        exact List.append_cancel_left hab
      have hn := rec_none a.x k o he
      refine ⟨?_, fun h' => absurd h' he, fun _ => by rw [hn]; rfl⟩
      show (recAsk a.x k o).1 = repR b.1 k o
      rw [hb, hn]; rfl
  have hk := runM_more repAsk_ok p f y (y.1.length + 1) (Nat.lt_succ_self _)
  have e1 := hg (k0 + (y.1.length + 1)) (by omega)
  have e2 := hk.2 (k0 + (y.1.length + 1)) (by omega)
  have hsim := runM_sim A mayR_ok (gAsk_most recAsk_ok.most) hp (k0 + (y.1.length + 1)) f (x := ⟨x, [], false⟩) (y := y) ⟨rfl, by rw [hy]; rfl⟩ (by
    rw [e1]; exact ⟨by show g.l <+: xs; rw [hl]; exact List.prefix_refl _, fun h => ⟨hl, hz h⟩⟩)
  rw [e1, e2] at hsim
  change Rl _ _ _ (s, g) (repM p f y) at hsim
  rcases hsim with ⟨es, hq⟩ | ⟨_, hP⟩
  · refine ⟨es.symm, ?_⟩
    rcases hq with ⟨_, hab⟩ | ⟨_, hz5⟩
    · have hab' : xs ++ (repM p f y).2.1 = alls xs s.fin.toNat := by
        have h' : g.l ++ (repM p f y).2.1 = alls xs s.fin.toNat := hab
        rwa [hl] at h'
      have hb : (repM p f y).2.1 = [(5, 0, s.fin.toNat, [])] := by unfold alls at hab'; exact List.append_cancel_left hab'
      unfold endR
      rw [hb]
      split
      · rfl
      · have e5 : ((s.fin.toNat : Nat) : Int) = s.fin := by omega
        simp only [e5, and_self, if_true]
    · have hz5' : s.fin = 5 := hz5
      unfold endR; rw [if_pos (.inl hz5')]
  · exact hP.elim

/-- Of the first inputs comes the beginning. -/
theorem RecRun.torn {p : Pg} (hp : PgOk p) {f : Int} {x : RS} {s : PS} {xs : List Inp} (h : RecRun p f x s xs) (m : Nat) (hm : m ≤ xs.length) (y : VL) (hy : y.1 = xs.take m) :
    (m = xs.length ∧ (repM p f y).1 = s ∧ endR s.fin (repM p f y).2.1 = s.fin) ∨ (m < xs.length ∧ (repM p f y).1.fin = 5 ∧ (repM p f y).1.heard = m ∧ (repM p f y).1.trace <+: s.trace) := by
  obtain ⟨k0, g, hg, hl, hz⟩ := h.ghost
  have hsm := h.small
  have A : Alike (gAsk recAsk) repAsk mayR (Upto xs (s.fin = 5)) (fun t a b => a.z = false ∧ t = (a.l.length : Int) ∧ a.l ++ b.1 = xs.take m) (fun e _ _ _ => e = 5 ∧ xs.length ≤ m) (fun s' t => m < xs.length ∧ t.fin = 5 ∧ t.heard = m ∧ t.trace <+: s'.trace) := by
    refine ⟨fun a k o => upto_back a k o, ?_, fun s1 s2 t ⟨p1, p2, p3, p4⟩ _ ht => ⟨p1, p2, p3, List.IsPrefix.trans p4 ht⟩⟩
    rintro t a b k o hm' ⟨ha, ht, hab⟩ hG
    have hlen := congrArg List.length hab
    rw [List.length_append, List.length_take] at hlen
    by_cases he : (recAsk a.x k o).1.e = 0
    · rw [gAsk_zero ha he] at hG ⊢
      obtain ⟨r, hr⟩ := hG.1
      have hr' : xs = a.l ++ inpOf (recAsk a.x k o).1 :: r := by rw [← hr]; simp
      have hxl : xs.length = a.l.length + (r.length + 1) := by rw [hr', List.length_append, List.length_cons]
      by_cases hlt : a.l.length < m
      · have hb : b.1 = inpOf (recAsk a.x k o).1 :: r.take (m - a.l.length - 1) := by
          rw [hr', List.take_append, List.take_of_length_le (by omega)] at hab
          have := List.append_cancel_left hab
          rw [this]
          obtain ⟨j, hj⟩ : ∃ j, m - a.l.length = j + 1 := ⟨m - a.l.length - 1, by omega⟩
          rw [hj, List.take_succ_cons]; rfl
        refine .inl ⟨?_, fun _ => ⟨rfl, ?_, ?_⟩, fun h' => absurd he h'⟩
        · show _ = repR b.1 k o
          rw [hb, rep_next hm' he]
        · show wrap64 (t + 1) = ((a.l ++ [inpOf (recAsk a.x k o).1]).length : Int)
          rw [ht, wrap_succ _ (by omega), List.length_append]; rfl
        · show (a.l ++ [inpOf (recAsk a.x k o).1]) ++ b.1.tail = xs.take m
          rw [← hab, hb]; simp
      · have hb : b.1 = [] := List.eq_nil_of_length_eq_zero (by omega)
        have hrep : repAsk b k o = (noRep, b.tail) := by unfold repAsk; rw [hb]; rfl
        refine .inr ⟨by rw [hrep]; simp [noRep], fun s1 h1 _ => ⟨fun h' => absurd he h', fun _ s2 hs2 => ⟨by omega, by rw [hrep]; rfl, ?_, hs2⟩⟩⟩
        show s1.heard = m
        rw [h1, ht]; omega
    · rw [gAsk_end ha he] at hG ⊢
      obtain ⟨e1, e2⟩ := hG.2 rfl
      have e1' : a.l = xs := e1
      have hn := rec_none a.x k o he
      rw [e1'] at hlen
      have hb : b.1 = [] := List.eq_nil_of_length_eq_zero (by omega)
      refine .inl ⟨?_, fun h' => absurd h' he, fun _ => ⟨by rw [hn]; rfl, by omega⟩⟩
      show (recAsk a.x k o).1 = repR b.1 k o
      rw [hb, hn]; rfl
  have hk := runM_more repAsk_ok p f y (y.1.length + 1) (Nat.lt_succ_self _)
  have e1 := hg (k0 + (y.1.length + 1)) (by omega)
  have e2 := hk.2 (k0 + (y.1.length + 1)) (by omega)
  have hsim := runM_sim A mayR_ok (gAsk_most recAsk_ok.most) hp (k0 + (y.1.length + 1)) f (x := ⟨x, [], false⟩) (y := y) ⟨rfl, rfl, by rw [hy]; rfl⟩ (by
    rw [e1]; exact ⟨by show g.l <+: xs; rw [hl]; exact List.prefix_refl _, fun h => ⟨hl, hz h⟩⟩)
  rw [e1, e2] at hsim
  change Rl _ _ _ (s, g) (repM p f y) at hsim
  rcases hsim with ⟨es, hq⟩ | ⟨_, p1, p2, p3, p4⟩
  · left
    rcases hq with ⟨_, _, hab⟩ | ⟨_, hz5, hle⟩
    · have hab' : xs ++ (repM p f y).2.1 = xs.take m := by rw [← hl] at hab ⊢; exact hab
      have hlen := congrArg List.length hab'
      rw [List.length_append, List.length_take] at hlen
      have hb : (repM p f y).2.1 = [] := List.eq_nil_of_length_eq_zero (by omega)
      refine ⟨by omega, es.symm, ?_⟩
      unfold endR
      rw [hb]
      split <;> rfl
    · have hz5' : s.fin = 5 := hz5
      exact ⟨by omega, es.symm, by unfold endR; rw [if_pos (.inl hz5')]⟩
  · exact .inr ⟨p1, p2, p3, p4⟩
end Go.Proofs.YtfmbebofllgmoaaGreatDoor
