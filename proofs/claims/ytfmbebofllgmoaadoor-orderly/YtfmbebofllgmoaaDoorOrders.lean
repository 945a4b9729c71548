/-
  PROVED HERE: the timers that are due go off in the order of their times, and of one time as they were armed: any list that is in this order, of the same timers, is that list. what a run does whose start arms timers, each of which tells one register, and whose world has times and empty batches. the keep statements' own small functions: pick, and sameEvents of events that are the same. the run of the document's example is as the document says. a slice of one's own grows: what else lies in memory stays as it is. Orderly's program as it grows in memory. Orderly's world as it grows in memory. Orderly's program and world, as Record takes them. what Orderly holds a trace against, as it grows in memory. the lists that Orderly's three loops make, one inside the other.
-/
import Derived.Test.YtfmbebofllgmoaaDoorSource
import Derived.Test.YtfmbebofllgmoaaDoorBase
import Derived.Deep.RegionLaw
namespace Go.Proofs.YtfmbebofllgmoaaDoor
open Go.RowKit Go.Sort

theorem uniq_sorted {α : Type} (lt : α → α → Bool) : ∀ (l1 l2 : List α), l1.Pairwise (fun a b => lt b a = false) → l2.Pairwise (fun a b => lt a b = true) → l1.Perm l2 → l1 = l2
  | [], l2, _, _, h => (List.nil_perm.1 h).symm
  | a :: t1, [], _, _, h => absurd h.length_eq (by simp)
  | a :: t1, b :: t2, h1, h2, h => by
    have hab : a = b := by
      by_cases e : a = b
      · exact e
      · have ha : a ∈ t2 := by
          have : a ∈ b :: t2 := h.mem_iff.1 (List.mem_cons_self ..)
          rcases List.mem_cons.1 this with r | r
          · exact absurd r e
          · exact r
        have hb : b ∈ t1 := by
          have : b ∈ a :: t1 := h.mem_iff.2 (List.mem_cons_self ..)
          rcases List.mem_cons.1 this with r | r
          · exact absurd r.symm e
          · exact r
        have x1 := (List.pairwise_cons.1 h1).1 b hb
        have x2 := (List.pairwise_cons.1 h2).1 a ha
        rw [x1] at x2
        cases x2
    subst hab
    rw [uniq_sorted lt t1 t2 (List.pairwise_cons.1 h1).2 (List.pairwise_cons.1 h2).2 (List.Perm.cons_inv h)]

theorem dueS_perm (s : PS) : (dueS s).Perm (dueK s 8) := by
  have hp := (insertionSort_holds (lt := ltOf cfT) swoT (dueK s 8).toArray 0 (dueK s 8).toArray.size (Nat.zero_le _) (Nat.le_refl _)).1
  change (Sort.insertionSort (ltOf cfT) (dueK s 8).toArray 0 (dueK s 8).toArray.size).toList.Perm (dueK s 8)
  generalize Sort.insertionSort (ltOf cfT) (dueK s 8).toArray 0 (dueK s 8).toArray.size = d at *
  have h1 := hp.2.2
  have hz := hp.1
  have e : d.extract 0 (dueK s 8).toArray.size = d := by rw [← hz]; simp
  rw [e] at h1
  simpa using h1
theorem dueS_sorted (s : PS) : (dueS s).Pairwise (fun a b => ltOf cfT b a = false) := by
  have hs := (insertionSort_holds (lt := ltOf cfT) swoT (dueK s 8).toArray 0 (dueK s 8).toArray.size (Nat.zero_le _) (Nat.le_refl _)).2
  have hp := (insertionSort_holds (lt := ltOf cfT) swoT (dueK s 8).toArray 0 (dueK s 8).toArray.size (Nat.zero_le _) (Nat.le_refl _)).1
  change (Sort.insertionSort (ltOf cfT) (dueK s 8).toArray 0 (dueK s 8).toArray.size).toList.Pairwise _
  generalize Sort.insertionSort (ltOf cfT) (dueK s 8).toArray 0 (dueK s 8).toArray.size = d at *
  rw [List.pairwise_iff_getElem]
  intro i j hi hj hij
  have hz := hp.1
  have hi' : i < d.size := by simpa using hi
  have hj' : j < d.size := by simpa using hj
  have := hs i j (Nat.zero_le _) hij (by omega)
  simpa [hi', hj'] using this
theorem dueS_eq (s : PS) (l : List TM) (hp : l.Perm (dueK s 8)) (hs : l.Pairwise (fun a b => ltOf cfT a b = true)) : dueS s = l :=
  uniq_sorted (ltOf cfT) _ _ (dueS_sorted s) hs ((dueS_perm s).trans hp.symm)
end Go.Proofs.YtfmbebofllgmoaaDoor
namespace Go.Proofs.YtfmbebofllgmoaaDoor
open Go.RowKit Go.Sort

def oAt (ats : List Int) (i : Nat) : Int := ats.getD i 0
def oTim (ats : List Int) (al : Nat → Bool) (i : Nat) : TM := if i < ats.length then (al i, oAt ats i, (i : Int) + 1, (i : Int)) else (false, 0, 0, 0)
/-- The program that arms a timer for each of these times. -/
def ordP (ats : List Int) : Pg := ⟨2 * ats.length, fun j => if j % 2 = 0 then (1, 0, oAt ats (j / 2)) else (3, ((j / 2 : Nat) : Int), 0), ats.length, fun _ => 1, fun _ _ => (9, 1, 0), 0, fun _ => 0, fun _ _ => (0, 0, 0)⟩
/-- A state of such a run. -/
def oS (ats : List Int) (al : Nat → Bool) (fu r0 c h : Int) (tr : List O3) (nx : Int) : PS := ⟨fu, nx, fun i => if i = 0 then r0 else 0, c, oTim ats al, ats.length, fun _ => false, tr, h, 0⟩
/-- When k timers are armed. -/
def stK (ats : List Int) (k : Nat) : PS := ⟨5000 - 2 * (k : Int), 2 * (k : Int), fun i => if i = 0 then (if k = 0 then 0 else oAt ats (k - 1)) else 0, 0, fun i => if i < k then (true, oAt ats i, (i : Int) + 1, (i : Int)) else (false, 0, 0, 0), k, fun _ => false, [], 0, 0⟩

theorem ps_ext {s t : PS} (h1 : s.fuel = t.fuel) (h2 : s.next = t.next) (h3 : s.reg = t.reg) (h4 : s.clock = t.clock) (h5 : s.tim = t.tim) (h6 : s.armings = t.armings) (h7 : s.wat = t.wat) (h8 : s.trace = t.trace) (h9 : s.heard = t.heard) (h10 : s.fin = t.fin) : s = t := by
  cases s; cases t; simp_all

section
variable {σ : Type} {ask : σ → Int → Int → Rep × σ}
theorem opM_set (a v : Int) (s : PS) (x : σ) : opM ask (1, a, v) s x = ({ s with reg := upd s.reg a.toNat v }, x) := by simp [opM]
theorem opM_arm (a v : Int) (s : PS) (x : σ) : opM ask (3, a, v) s x = ({ s with armings := s.armings + 1, tim := upd s.tim a.toNat (true, s.clock + min (max (s.reg v.toNat) 0) (1099511627776 - s.clock), s.armings + 1, a) }, x) := by simp [opM]
theorem opM_emit (a v : Int) (s : PS) (x : σ) : opM ask (9, a, v) s x = ({ s with trace := s.trace ++ [(3, a, s.reg a.toNat)] }, x) := by simp [opM]

theorem hM_step {f : Nat → O3} {n k : Nat} (s : PS) (x : σ) (h1 : s.next < n) (h2 : s.fin = 0) (h3 : s.fuel ≠ 0) :
    hM ask f n (k + 1) s x = hM ask f n k (opM ask (f s.next.toNat) { s with fuel := s.fuel - 1, next := s.next + 1 } x).1 (opM ask (f s.next.toNat) { s with fuel := s.fuel - 1, next := s.next + 1 } x).2 := by
  rw [hM, if_pos ⟨h1, h2⟩, if_neg h3]
theorem start_step (ats : List Int) (hn : ats.length ≤ 8) (hat : ∀ i, 0 ≤ oAt ats i ∧ oAt ats i < 30) (k m : Nat) (hk : k < ats.length) (x : σ) :
    hM ask (ordP ats).sf (2 * ats.length) (m + 1 + 1) (stK ats k) x = hM ask (ordP ats).sf (2 * ats.length) m (stK ats (k + 1)) x := by
  have e0 : (ordP ats).sf ((2 * (k : Int)).toNat) = (1, 0, oAt ats k) := by
    have : (2 * (k : Int)).toNat = 2 * k := by omega
    rw [this]
    simp [ordP]
  have e1 : (ordP ats).sf ((2 * (k : Int) + 1).toNat) = (3, (k : Int), 0) := by
    have : (2 * (k : Int) + 1).toNat = 2 * k + 1 := by omega
    rw [this]
    have h1 : (2 * k + 1) % 2 = 1 := by omega
    have h2 : (2 * k + 1) / 2 = k := by omega
    simp only [ordP, h1, h2]
    rfl
  rw [hM_step (stK ats k) x (by show 2 * (k : Int) < _; omega) rfl (by show (5000 : Int) - 2 * (k : Int) ≠ 0; omega)]
  rw [show (stK ats k).next.toNat = (2 * (k : Int)).toNat from rfl, e0, opM_set]
  rw [hM_step _ x (by show (2 : Int) * (k : Int) + 1 < _; omega) rfl (by show (5000 : Int) - 2 * (k : Int) - 1 ≠ 0; omega)]
  show hM ask (ordP ats).sf (2 * ats.length) m (opM ask ((ordP ats).sf ((2 * (k : Int) + 1).toNat)) _ x).1 (opM ask ((ordP ats).sf ((2 * (k : Int) + 1).toNat)) _ x).2 = _
  rw [e1, opM_arm]
  have hst : ∀ s t : PS, s = t → hM ask (ordP ats).sf (2 * ats.length) m s x = hM ask (ordP ats).sf (2 * ats.length) m t x := fun s t h => by rw [h]
  refine hst _ _ (ps_ext ?_ ?_ ?_ rfl ?_ ?_ rfl rfl rfl rfl)
  · show (5000 : Int) - 2 * (k : Int) - 1 - 1 = 5000 - 2 * ((k + 1 : Nat) : Int); omega
  · show (2 : Int) * (k : Int) + 1 + 1 = 2 * ((k + 1 : Nat) : Int); omega
  · funext i
    by_cases hi : i = 0
    · subst hi; simp [stK, upd]
    · simp [stK, upd, hi]
  · funext i
    have hr := hat k
    by_cases hi : i = k
    · subst hi
      simp [stK, upd]
      omega
    · have : (i < k + 1) ↔ (i < k) := by omega
      simp [stK, upd, hi, this]
  · show ((k : Nat) : Int) + 1 = ((k + 1 : Nat) : Int); omega
theorem start_all (ats : List Int) (hn : ats.length ≤ 8) (hat : ∀ i, 0 ≤ oAt ats i ∧ oAt ats i < 30) (x : σ) : ∀ (m k : Nat), k + m = ats.length → hM ask (ordP ats).sf (2 * ats.length) (2 * m) (stK ats k) x = (stK ats ats.length, x)
  | 0, k, h => by
    have : k = ats.length := by omega
    subst this
    rfl
  | m + 1, k, h => by
    rw [show 2 * (m + 1) = 2 * m + 1 + 1 by omega, start_step ats hn hat k (2 * m) (by omega), start_all ats hn hat x m (k + 1) (by omega)]
theorem stK_oS (ats : List Int) : ∃ r0, stK ats ats.length = oS ats (fun _ => true) (5000 - 2 * (ats.length : Int)) r0 0 0 [] (2 * (ats.length : Int)) := by
  refine ⟨if ats.length = 0 then 0 else oAt ats (ats.length - 1), ps_ext rfl rfl rfl rfl ?_ rfl rfl rfl rfl rfl⟩
  funext i
  simp [stK, oS, oTim]
end

/-- Is a timer still armed? -/
def anyAl (n : Nat) (al : Nat → Bool) : Bool := (List.range n).any al
/-- The timers that are due at c, in order. -/
def dueL (ats : List Int) (al : Nat → Bool) (c : Int) : List Nat := (List.range (c.toNat + 1)).flatMap fun (t : Nat) => (List.range ats.length).filter fun k => al k && decide (oAt ats k = (t : Int))
def offL (ats : List Int) (al : Nat → Bool) (c : Int) (i : Nat) : Bool := al i && !decide (oAt ats i ≤ c)
/-- What is told of them. -/
def evL (l : List Nat) : List O3 := l.flatMap fun (k : Nat) => [(1, (k : Int), 0), (3, 1, 0)]

theorem oTim_congr (ats : List Int) {al al' : Nat → Bool} (h : ∀ i, i < ats.length → al i = al' i) : oTim ats al = oTim ats al' := by
  funext i
  unfold oTim
  split
  · rename_i hi; rw [h i hi]
  · rfl
theorem oS_congr (ats : List Int) {al al' : Nat → Bool} (fu r0 c h : Int) (tr : List O3) (nx : Int) (ha : ∀ i, i < ats.length → al i = al' i) : oS ats al fu r0 c h tr nx = oS ats al' fu r0 c h tr nx := by
  unfold oS
  rw [oTim_congr ats ha]

theorem mem_dueL {ats : List Int} {al : Nat → Bool} {c : Int} (hat : ∀ i, 0 ≤ oAt ats i) (hc : 0 ≤ c) (k : Nat) : k ∈ dueL ats al c ↔ k < ats.length ∧ al k = true ∧ oAt ats k ≤ c := by
  unfold dueL
  simp only [List.mem_flatMap, List.mem_range, List.mem_filter, Bool.and_eq_true, decide_eq_true_eq]
  constructor
  · rintro ⟨t, ht, hk, ha, he⟩
    exact ⟨hk, ha, by omega⟩
  · rintro ⟨hk, ha, he⟩
    have := hat k
    exact ⟨(oAt ats k).toNat, by omega, hk, ha, by omega⟩

theorem pw_dueL (ats : List Int) (al : Nat → Bool) (c : Int) : (dueL ats al c).Pairwise (fun i j => oAt ats i < oAt ats j ∨ (oAt ats i = oAt ats j ∧ i < j)) := by
  unfold dueL
  rw [List.pairwise_flatMap]
  constructor
  · intro t _
    refine List.Pairwise.imp_of_mem ?_ (List.Pairwise.filter _ List.pairwise_lt_range)
    intro i j hi hj hij
    simp only [List.mem_filter, Bool.and_eq_true, decide_eq_true_eq] at hi hj
    exact .inr ⟨by omega, hij⟩
  · refine List.Pairwise.imp ?_ List.pairwise_lt_range
    intro t1 t2 h12 i hi j hj
    simp only [List.mem_filter, Bool.and_eq_true, decide_eq_true_eq] at hi hj
    exact .inl (by omega)

theorem dueS_oS (ats : List Int) (hn : ats.length ≤ 8) (hat : ∀ i, 0 ≤ oAt ats i) (al : Nat → Bool) (fu r0 c h : Int) (hc : 0 ≤ c) (tr : List O3) (nx : Int) :
    dueS (oS ats al fu r0 c h tr nx) = (dueL ats al c).map fun k => (true, oAt ats k, (k : Int) + 1, (k : Int)) := by
  have hnd : (dueL ats al c).Nodup := by
    refine List.Pairwise.imp ?_ (pw_dueL ats al c)
    intro a b h e
    subst e
    omega
  refine dueS_eq _ _ ?_ ?_
  · unfold dueK
    rw [List.filter_map]
    have hp : (dueL ats al c).Perm ((List.range 8).filter ((fun t : TM => t.1 && decide (t.2.1 ≤ (oS ats al fu r0 c h tr nx).clock)) ∘ (oS ats al fu r0 c h tr nx).tim)) := by
      refine (List.perm_ext_iff_of_nodup hnd (List.Pairwise.filter _ List.nodup_range)).2 ?_
      intro k
      rw [mem_dueL hat hc]
      simp only [List.mem_filter, List.mem_range, Function.comp, Bool.and_eq_true, decide_eq_true_eq]
      show _ ↔ k < 8 ∧ (oTim ats al k).1 = true ∧ (oTim ats al k).2.1 ≤ c
      unfold oTim
      constructor
      · rintro ⟨h1, h2, h3⟩
        rw [if_pos h1]
        exact ⟨by omega, h2, h3⟩
      · rintro ⟨h1, h2, h3⟩
        split at h2
        · rename_i hk
          rw [if_pos hk] at h3
          exact ⟨hk, h2, h3⟩
        · cases h2
    refine (hp.map fun k => ((true, oAt ats k, (k : Int) + 1, (k : Int)) : TM)).trans ?_
    rw [List.map_congr_left]
    intro k hk
    simp only [List.mem_filter, List.mem_range, Function.comp, Bool.and_eq_true, decide_eq_true_eq] at hk
    have h1 : (oTim ats al k).1 = true := hk.2.1
    show _ = oTim ats al k
    unfold oTim at h1 ⊢
    split
    · rename_i hlt
      rw [if_pos hlt] at h1
      simp only at h1
      rw [h1]
    · rename_i hlt
      rw [if_neg hlt] at h1
      cases h1
  · rw [List.pairwise_map]
    refine List.Pairwise.imp ?_ (pw_dueL ats al c)
    intro a b h
    rw [ltT]
    rcases h with h | ⟨h1, h2⟩
    · exact .inl h
    · exact .inr ⟨h1, by show (a : Int) + 1 < (b : Int) + 1; omega⟩

section
variable {σ : Type} {ask : σ → Int → Int → Rep × σ}
/-- One timer goes off. -/
theorem fire_one (ats : List Int) (al : Nat → Bool) (fu r0 c h : Int) (tr : List O3) (nx : Int) (k : Nat) (hk : k < ats.length) (hf : 0 < fu) (x : σ) :
    gT ask (ordP ats) (k : Int) (offS (oS ats al fu r0 c h tr nx) (k : Int)) x = (oS ats (fun i => al i && !decide (i = k)) (fu - 1) r0 c h (tr ++ [(1, (k : Int), 0), (3, 1, 0)]) 1, x) := by
  unfold gT
  show hM ask (fun _ => (9, 1, 0)) 1 1 _ x = _
  rw [hM_step _ x (by show (0 : Int) < ((1 : Nat) : Int); omega) rfl (by show fu ≠ 0; omega)]
  show hM ask (fun _ => (9, 1, 0)) 1 0 (opM ask (9, 1, 0) _ x).1 (opM ask (9, 1, 0) _ x).2 = _
  rw [opM_emit]
  show (_, x) = (_, x)
  refine congrArg (fun q => (q, x)) (ps_ext rfl rfl rfl rfl ?_ rfl rfl ?_ rfl rfl)
  · funext i
    show upd (oTim ats al) ((k : Int)).toNat (false, (oTim ats al ((k : Int)).toNat).2) i = oTim ats (fun i => al i && !decide (i = k)) i
    rw [Int.toNat_natCast]
    unfold upd oTim
    by_cases hi : i = k
    · subst hi
      simp [hk]
    · simp [hi]
  · show tr ++ [(1, (k : Int), 0)] ++ [(3, 1, if ((1 : Int)).toNat = 0 then r0 else 0)] = tr ++ [(1, (k : Int), 0), (3, 1, 0)]
    simp
theorem fire_all (ats : List Int) (r0 c h : Int) (x : σ) : ∀ (D : List Nat) (al : Nat → Bool) (fu : Int) (tr : List O3) (nx : Int), D.Nodup → (∀ k, k ∈ D → k < ats.length ∧ al k = true) → (D.length : Int) ≤ fu →
    ∃ nx', frM (gT ask (ordP ats)) (D.map fun k => (true, oAt ats k, (k : Int) + 1, (k : Int))) (oS ats al fu r0 c h tr nx) x = (oS ats (fun i => al i && !(D.contains i)) (fu - D.length) r0 c h (tr ++ evL D) nx', x)
  | [], al, fu, tr, nx, _, _, _ => ⟨nx, by
    simp only [List.map_nil, frM]
    refine congrArg (fun q => (q, x)) ?_
    rw [oS_congr ats (al' := fun i => al i && !(([] : List Nat).contains i)) fu r0 c h tr nx (fun i _ => by simp)]
    simp [evL]⟩
  | k :: D, al, fu, tr, nx, hnd, hm, hf => by
    have hk := hm k (List.mem_cons_self ..)
    have hnd' := List.nodup_cons.1 hnd
    simp only [List.length_cons] at hf
    obtain ⟨nx', ih⟩ := fire_all ats r0 c h x D (fun i => al i && !decide (i = k)) (fu - 1) (tr ++ [(1, (k : Int), 0), (3, 1, 0)]) 1 hnd'.2 (fun j hj => by
      have := hm j (List.mem_cons_of_mem _ hj)
      refine ⟨this.1, ?_⟩
      have hne : j ≠ k := fun e => hnd'.1 (e ▸ hj)
      simp [this.2, hne]) (by omega)
    refine ⟨nx', ?_⟩
    rw [List.map_cons, frM, if_neg (show ¬ (oS ats al fu r0 c h tr nx).fin ≠ 0 from fun h => h rfl)]
    have ht : (oS ats al fu r0 c h tr nx).tim ((k : Int)).toNat = (true, oAt ats k, (k : Int) + 1, (k : Int)) := by
      show oTim ats al ((k : Int)).toNat = _
      rw [Int.toNat_natCast]
      unfold oTim
      rw [if_pos hk.1, hk.2]
    rw [if_pos ht]
    rw [fire_one ats al fu r0 c h tr nx k hk.1 (by omega) x]
    show frM (gT ask (ordP ats)) _ _ _ = _
    rw [ih]
    refine congrArg (fun q => (q, x)) ?_
    rw [oS_congr ats (al' := fun i => al i && !((k :: D).contains i)) _ r0 c h _ nx' (fun i _ => by
      by_cases e : i = k
      · subst e; simp
      · simp [e])]
    have e1 : fu - 1 - (D.length : Int) = fu - ((k :: D).length : Int) := by simp only [List.length_cons]; omega
    rw [e1]
    simp [evL]
end

theorem dueL_length (ats : List Int) (hn : ats.length ≤ 8) (hat : ∀ i, 0 ≤ oAt ats i) (al : Nat → Bool) (c : Int) (hc : 0 ≤ c) : (dueL ats al c).length ≤ 8 := by
  have h1 := congrArg List.length (dueS_oS ats hn hat al 0 0 c 0 hc [] 0)
  have h2 := (dueS_perm (oS ats al 0 0 c 0 [] 0)).length_eq
  rw [List.length_map] at h1
  have h3 : (dueK (oS ats al 0 0 c 0 [] 0) 8).length ≤ 8 := by
    unfold dueK
    refine Nat.le_trans (List.length_filter_le _ _) ?_
    simp
  omega

/-- A source that has these times, and an empty batch for each. -/
def OX (cs : List Int) (x : RS) : Prop := x.clocks = cs ∧ x.batches.length = cs.length ∧ ∀ b, b ∈ x.batches → b.2 = []
theorem w64 (h : Int) (h0 : 0 ≤ h) (h1 : h ≤ 1000) : wrap64 (h + 1) = h + 1 := by unfold wrap64; omega

theorem idle_oS (ats : List Int) (hn : ats.length ≤ 8) (al : Nat → Bool) (fu r0 c h : Int) (tr : List O3) (nx : Int) : idleB (oS ats al fu r0 c h tr nx) = !anyAl ats.length al := by
  have any_iff : ∀ (f : Nat → Bool) (n : Nat), anyB f n = (List.range n).any f := by
    intro f n
    induction n with
    | zero => rfl
    | succ n ih => rw [anyB, ih, List.range_succ, List.any_append]; simp
  unfold idleB
  rw [any_iff, any_iff]
  have e2 : (List.range 8).any (oS ats al fu r0 c h tr nx).wat = false := by
    rw [List.any_eq_false]
    intro i _
    show ¬ (false = true)
    simp
  have e1 : (List.range 8).any (fun i => ((oS ats al fu r0 c h tr nx).tim i).1) = anyAl ats.length al := by
    unfold anyAl
    rw [Bool.eq_iff_iff, List.any_eq_true, List.any_eq_true]
    constructor
    · rintro ⟨i, hi, h1⟩
      change (oTim ats al i).1 = true at h1
      unfold oTim at h1
      split at h1
      · rename_i hlt; exact ⟨i, List.mem_range.2 hlt, h1⟩
      · cases h1
    · rintro ⟨i, hi, h1⟩
      have hlt := List.mem_range.1 hi
      refine ⟨i, List.mem_range.2 (by omega), ?_⟩
      show (oTim ats al i).1 = true
      unfold oTim
      rw [if_pos hlt]
      exact h1
  rw [e1, e2]
  simp

theorem turn_go (ats : List Int) (hn : ats.length ≤ 8) (hat : ∀ i, 0 ≤ oAt ats i) (al : Nat → Bool) (fu r0 c0 c h : Int) (tr : List O3) (nx : Int) (r : List Int) (x : RS) (hx : OX (c :: r) x) (ha : anyAl ats.length al = true) (h0 : 0 ≤ c0) (hc : c0 ≤ c) (hm : c ≤ 1099511627776) (hh : 0 ≤ h) (hh2 : h ≤ 990) (hf : 8 ≤ fu) :
    ∃ nx' x', turnM recAsk (ordP ats) (oS ats al fu r0 c0 h tr nx) x = (oS ats (offL ats al c) (fu - (dueL ats al c).length) r0 c (h + 2) (tr ++ evL (dueL ats al c)) nx', x') ∧ OX r x' := by
  obtain ⟨hx1, hx2, hx3⟩ := hx
  obtain ⟨b, rb, hb⟩ : ∃ b rb, x.batches = b :: rb := by
    cases hbb : x.batches with
    | nil => rw [hbb] at hx2; simp at hx2
    | cons b rb => exact ⟨b, rb, rfl⟩
  have hcl : clampC c = c := by unfold clampC; omega
  have ask1 : recAsk x 1 0 = (⟨1, 0, c, [], 0⟩, { x with clocks := r, log := x.log ++ frameS (bodyS 1 0 c.toNat) }) := by
    unfold recAsk
    rw [if_pos rfl, hx1]
    simp only [hcl]
  have hck : ckS (oS ats al fu r0 c0 h tr nx) ⟨1, 0, c, [], 0⟩ = oS ats al fu r0 c (h + 1) tr nx := by
    unfold ckS
    rw [if_pos rfl]
    refine (if_neg (show ¬ (c < c0) by omega)).trans ?_
    refine ps_ext rfl rfl rfl rfl rfl rfl rfl rfl ?_ rfl
    show wrap64 (h + 1) = h + 1
    exact w64 h hh (by omega)
  have hcb : ckB (oS ats al fu r0 c0 h tr nx) ⟨1, 0, c, [], 0⟩ = true := by
    unfold ckB
    have : ¬ c < c0 := by omega
    show (decide ((0 : Int) = 0) && !decide (c < c0)) = true
    simp [this]
  have hlen := dueL_length ats hn hat al c (by omega)
  have hnd : (dueL ats al c).Nodup := by
    refine List.Pairwise.imp ?_ (pw_dueL ats al c)
    intro a b h e
    subst e
    omega
  obtain ⟨nx', hfire⟩ := fire_all (ask := recAsk) ats r0 c (h + 1) { x with clocks := r, log := x.log ++ frameS (bodyS 1 0 c.toNat) } (dueL ats al c) al fu tr nx hnd (fun k hk => by
    have := (mem_dueL hat (by omega) k).1 hk
    exact ⟨this.1, this.2.1⟩) (by omega)
  rw [← dueS_oS ats hn hat al fu r0 c (h + 1) (by omega) tr nx] at hfire
  have hoff : ∀ i, i < ats.length → (al i && !((dueL ats al c).contains i)) = offL ats al c i := by
    intro i hi
    unfold offL
    cases hal : al i with
    | false => rfl
    | true =>
      have := mem_dueL (al := al) hat (show 0 ≤ c by omega) i
      by_cases hle : oAt ats i ≤ c
      · have h1 : (dueL ats al c).contains i = true := by rw [List.contains_iff_mem]; exact this.2 ⟨hi, hal, hle⟩
        rw [h1]; simp [hle]
      · have h1 : (dueL ats al c).contains i = false := by
          rw [Bool.eq_false_iff, ne_eq, List.contains_iff_mem]
          intro hm
          exact hle (this.1 hm).2.2
        rw [h1]; simp [hle]
  rw [oS_congr ats _ r0 c (h + 1) _ nx' hoff] at hfire
  have hb2 : b.2 = [] := hx3 b (by rw [hb]; exact List.mem_cons_self ..)
  have hfl : filesL b.2 = [] := by rw [hb2]; rfl
  refine ⟨nx', { x with clocks := r, batches := rb, log := x.log ++ frameS (bodyS 1 0 c.toNat) ++ frameS (batchS []) }, ?_, rfl, ?_, ?_⟩
  · unfold turnM
    rw [idle_oS ats hn, ha, if_neg (by simp), ask1]
    simp only
    rw [hcb, if_pos rfl, hck, hfire]
    simp only
    rw [if_pos (show (oS ats (offL ats al c) (fu - ↑(dueL ats al c).length) r0 c (h + 1) (tr ++ evL (dueL ats al c)) nx').fin = 0 from rfl)]
    unfold wakeM
    have ask2 : recAsk { x with clocks := r, log := x.log ++ frameS (bodyS 1 0 c.toNat) } 2 0 = (⟨2, 0, 0, [], 0⟩, { x with clocks := r, batches := rb, log := x.log ++ frameS (bodyS 1 0 c.toNat) ++ frameS (batchS []) }) := by
      unfold recAsk
      rw [if_neg (by omega), if_pos rfl]
      simp only [hb, hfl]
    rw [ask2]
    simp only [List.filter_nil]
    rw [if_pos trivial, wkM, if_pos (.inl rfl)]
    refine congrArg (fun q => (q, _)) ?_
    refine ps_ext rfl rfl rfl rfl rfl rfl rfl rfl ?_ rfl
    show wrap64 (h + 1 + 1) = h + 2
    rw [w64 (h + 1) (by omega) (by omega)]
    omega
  · show rb.length = r.length
    rw [hb] at hx2
    simpa using hx2
  · intro b' hb'
    exact hx3 b' (by rw [hb]; exact List.mem_cons_of_mem _ hb')

/-- The trace, the end and the inputs heard, from here on. -/
def ordR (ats : List Int) : List Int → (Nat → Bool) → List O3 × Int × Int
  | [], al => ([], if anyAl ats.length al then 5 else 2, 0)
  | c :: r, al => if anyAl ats.length al then (evL (dueL ats al c) ++ (ordR ats r (offL ats al c)).1, (ordR ats r (offL ats al c)).2.1, (ordR ats r (offL ats al c)).2.2 + 2) else ([], 2, 0)
/-- Times that go on from c0. -/
def upC : Int → List Int → Prop
  | _, [] => True
  | c0, c :: r => c0 ≤ c ∧ c ≤ 100000 ∧ upC c r

theorem turns_ord (ats : List Int) (hn : ats.length ≤ 8) (hat : ∀ i, 0 ≤ oAt ats i) (r0 : Int) : ∀ (cs : List Int) (al : Nat → Bool) (fu c0 h : Int) (tr : List O3) (nx : Int) (x : RS) (k : Nat), OX cs x → upC c0 cs → cs.length < k → 0 ≤ c0 → 0 ≤ h → h + 2 * cs.length ≤ 900 → 8 * ((cs.length : Int) + 1) ≤ fu →
    (turnsM recAsk (ordP ats) k (oS ats al fu r0 c0 h tr nx) x).1.trace = tr ++ (ordR ats cs al).1 ∧ (turnsM recAsk (ordP ats) k (oS ats al fu r0 c0 h tr nx) x).1.fin = (ordR ats cs al).2.1 ∧ (turnsM recAsk (ordP ats) k (oS ats al fu r0 c0 h tr nx) x).1.heard = h + (ordR ats cs al).2.2 := by
  intro cs
  induction cs with
  | nil =>
    intro al fu c0 h tr nx x k hx hu hk h0 hh hb hf
    obtain ⟨k, rfl⟩ : ∃ k', k = k' + 1 := ⟨k - 1, by simp at hk; omega⟩
    rw [turnsM, if_pos (show (oS ats al fu r0 c0 h tr nx).fin = 0 from rfl)]
    unfold turnM
    rw [idle_oS ats hn]
    cases ha : anyAl ats.length al with
    | false =>
      simp only [Bool.not_false, if_true]
      rw [turnsM_stop _ _ _ _ (show (2 : Int) ≠ 0 by omega)]
      simp [ordR, ha, oS]
    | true =>
      have ask1 : recAsk x 1 0 = (noRep, x) := by
        unfold recAsk
        rw [if_pos rfl, hx.1]
      rw [ask1]
      have hcb : ckB (oS ats al fu r0 c0 h tr nx) noRep = false := by simp [ckB, noRep]
      have hcs : ckS (oS ats al fu r0 c0 h tr nx) noRep = { oS ats al fu r0 c0 h tr nx with fin := 5 } := by
        unfold ckS
        rw [if_neg (by simp [noRep])]
        rfl
      simp only [Bool.not_true, Bool.false_eq_true, if_false, hcb, hcs]
      rw [turnsM_stop _ _ _ _ (show (5 : Int) ≠ 0 by omega)]
      simp [ordR, ha, oS]
  | cons c r ih =>
    intro al fu c0 h tr nx x k hx hu hk h0 hh hb hf
    obtain ⟨k, rfl⟩ : ∃ k', k = k' + 1 := ⟨k - 1, by simp at hk; omega⟩
    rw [turnsM, if_pos (show (oS ats al fu r0 c0 h tr nx).fin = 0 from rfl)]
    obtain ⟨u1, u2, u3⟩ := hu
    simp only [List.length_cons] at hk hb hf
    cases ha : anyAl ats.length al with
    | false =>
      unfold turnM
      rw [idle_oS ats hn, ha]
      simp only [Bool.not_false, if_true]
      rw [turnsM_stop _ _ _ _ (show (2 : Int) ≠ 0 by omega)]
      simp [ordR, ha, oS]
    | true =>
      obtain ⟨nx', x', ht, hx'⟩ := turn_go ats hn hat al fu r0 c0 c h tr nx r x hx ha h0 u1 (by omega) hh (by omega) (by omega)
      have hl := dueL_length ats hn hat al c (by omega)
      rw [ht]
      obtain ⟨i1, i2, i3⟩ := ih (offL ats al c) (fu - (dueL ats al c).length) c (h + 2) (tr ++ evL (dueL ats al c)) nx' x' k hx' u3 (by omega) (by omega) (by omega) (by omega) (by omega)
      simp only
      rw [i1, i2, i3]
      simp only [ordR, ha, if_true]
      exact ⟨by rw [List.append_assoc], trivial, by omega⟩

theorem recM_ord (ats : List Int) (hn : ats.length ≤ 8) (hat : ∀ i, 0 ≤ oAt ats i ∧ oAt ats i < 30) (cs : List Int) (hcs : cs.length ≤ 40) (hu : upC 0 cs) (bs : List (Value × List Int)) (hb : bs.length = cs.length) (hbe : ∀ b, b ∈ bs → b.2 = []) :
    (recM (ordP ats) 5000 cs bs [] []).1.trace = (ordR ats cs (fun _ => true)).1 ∧ (recM (ordP ats) 5000 cs bs [] []).1.fin = (ordR ats cs (fun _ => true)).2.1 ∧ (recM (ordP ats) 5000 cs bs [] []).1.heard = (ordR ats cs (fun _ => true)).2.2 := by
  have e0 : s0 (min (max 5000 0) 5000) = stK ats 0 := by
    refine ps_ext rfl rfl ?_ rfl ?_ rfl rfl rfl rfl rfl
    · funext i; simp [s0, stK]
    · funext i; simp [s0, stK]
  have hst := start_all (ask := recAsk) ats hn hat (⟨cs, bs, [], [], headS⟩ : RS) ats.length 0 (by omega)
  obtain ⟨r0, hr0⟩ := stK_oS ats
  unfold recM runM
  rw [show (ordP ats).sn = 2 * ats.length from rfl, e0, hst]
  simp only
  rw [hr0]
  have := turns_ord ats hn (fun i => (hat i).1) r0 cs (fun _ => true) (5000 - 2 * (ats.length : Int)) 0 0 [] (2 * (ats.length : Int)) ⟨cs, bs, [], [], headS⟩ (cs.length + 1) ⟨rfl, hb, hbe⟩ hu (by omega) (by omega) (by omega) (by omega) (by omega)
  simpa using this
end Go.Proofs.YtfmbebofllgmoaaDoor
namespace Go.Proofs.YtfmbebofllgmoaaDoor
open Go.RowKit

/-- Which of n things a raw number speaks of. -/
def pickI (c : Int) (n : Int) : Int := (if c < 0 then -(c + 1) else c) % n
theorem kpick_any (c n : Int) (h0 : 1 ≤ n) (h1 : n ≤ 1000000) (hc : -9223372036854775808 ≤ c ∧ c ≤ 9223372036854775807) (w : World) : Calls Tryd.prog 5 #[.int .i64 c, .int .i64 n] w fun e w' => e = .returned (.int .i64 (pickI c n)) ∧ w' = w := by
  have hne : (n == 0) = false := by simp; omega
  have hne' : n ≠ 0 := by omega
  by_cases h : c < 0
  · have hw1 : IntKind.i64.wrap (c + 1) = c + 1 := by rw [IntKind.wrap_i64]; omega
    have hw2 : IntKind.i64.wrap (-(c + 1)) = -(c + 1) := by rw [IntKind.wrap_i64]; omega
    have hm : (-(c + 1)).tmod n = pickI c n := by unfold pickI; rw [if_pos h]; exact Int.tmod_eq_emod_of_nonneg (by omega)
    go_enter Tryd.func5, Tryd.ntmps5
    go_wp2
    go_ret
    exact ⟨rfl, rfl⟩
  · have hm : c.tmod n = pickI c n := by unfold pickI; rw [if_neg h]; exact Int.tmod_eq_emod_of_nonneg (by omega)
    go_enter Tryd.func5, Tryd.ntmps5
    go_wp2
    go_ret
    exact ⟨rfl, rfl⟩
theorem pickI_range (c n : Int) (h0 : 1 ≤ n) : 0 ≤ pickI c n ∧ pickI c n < n := by
  unfold pickI
  exact ⟨Int.emod_nonneg _ (by omega), Int.emod_lt_of_pos _ (by omega)⟩

set_option maxHeartbeats 400000 in
theorem sameEvents_any (n : Nat) (v1 v2 : Value) (f : Nat → O3) (w : World) (h1 : OpsIn w v1 n f) (h2 : OpsIn w v2 n f) :
    Calls Tryd.prog 7 #[v1, v2] w fun e w' => e = .returned (.bool true) ∧ Dr w w' := by
  obtain ⟨a, c, rfl, hn, hf⟩ := h1
  obtain ⟨a', c', rfl, _, hf'⟩ := h2
  have HF := hide hf
  have HF' := hide hf'
  clear hf hf'
  go_enter Tryd.func7, Tryd.ntmps7
  go_wp2
  go_loopw [5] (fun i wr => ∃ k : Nat, k ≤ n ∧ i = .int .i64 k ∧ Dr w wr) (fun i _ => n - (intOf i).toNat)
  case atStart => exact ⟨0, Nat.zero_le _, rfl, Dr.refl _⟩
  case round =>
    obtain ⟨k, hk, rfl, hd⟩ := hrel
    by_cases hlt : k < n
    · rcases unhide HF with hz | ⟨b, off, rfl, hf⟩
      · omega
      rcases unhide HF' with hz | ⟨b', off', rfl, hf'⟩
      · omega
      obtain ⟨g0, g1, g2⟩ := hf k hlt
      obtain ⟨o0, o1, o2⟩ := hf' k hlt
      rw [← hd.cell] at g0 g1 g2 o0 o1 o2
      clear hf hf'
      generalize f k = x at *
      have hk0 : (0 : Int) ≤ (k : Int) := by omega
      have hk1 : (k : Int) < (n : Int) := by omega
      go_wp2
      go_quiet (fail)
      go_wp2
      go_roundw
      case rel => exact ⟨k + 1, by omega, by go_num, hd.more _⟩
      case measure => simp [intOf]; omega
    · go_wp2
      go_ret
      exact ⟨rfl, hd⟩
end Go.Proofs.YtfmbebofllgmoaaDoor
namespace Go.Proofs.YtfmbebofllgmoaaDoor
open Go.RowKit
attribute [local go_sem ↓] Go.wp_at_zero Go.wp_at_succ

def exP : Pg := ⟨3, fun i => if i = 0 then (1, 0, 5) else if i = 1 then (3, 0, 0) else (5, 1, 0), 1, fun _ => 3, fun _ j => if j = 0 then (9, 0, 0) else if j = 1 then (8, 1, 10) else (9, 1, 0), 2, fun i => if i = 0 then 0 else 1, fun _ _ => (6, 1, 0)⟩
def exRun (x y : Value) : PS × RS := recM exP 100 [3, 6, 9] [(x, []), (y, [1, 0, 1])] [] [13]
theorem ex_trace (x y : Value) : (exRun x y).1.trace = [(1, 0, 0), (3, 0, 5), (3, 1, 3), (2, 1, 0)] := by kernel_rfl
theorem ex_fin (x y : Value) : (exRun x y).1.fin = 2 := by kernel_rfl
theorem ex_clock (x y : Value) : (exRun x y).1.clock = 6 := by kernel_rfl
theorem ex_heard (x y : Value) : (exRun x y).1.heard = 5 := by kernel_rfl
theorem ex_log (x y : Value) : (exRun x y).2.log = headS ++ frameS (bodyS 1 0 3) ++ frameS (batchS []) ++ frameS (bodyS 1 0 6) ++ frameS (bodyS 4 10 3) ++ frameS (batchS [0, 1]) := by kernel_rfl
theorem frame_len (b : ByteArray) (h : b.size < 128) : (frameS b).size = b.size + 5 := by
  unfold frameS
  rw [ByteArray.size_append, ByteArray.size_append, sumS_size, varS_one _ h]
  omega
theorem ex_size (x y : Value) : (recLog (exRun x y)).size = 48 := by
  unfold recLog
  rw [ex_log, ex_fin]
  have b1 : ∀ k n : Nat, k ≠ 3 → k ≠ 4 → n < 128 → (bodyS k 0 n).size = 2 := fun k n h3 h4 hn => by
    unfold bodyS
    rw [if_neg (by omega), ByteArray.size_append, one_size, varS_one _ hn]
  have b2 : (bodyS 4 10 3).size = 3 := by
    unfold bodyS
    rw [if_pos (by omega), ByteArray.size_append, ByteArray.size_append, one_size, varS_one _ (by omega), varS_one _ (by omega)]
  have b3 : (batchS []).size = 2 := by
    unfold batchS filesS
    rw [List.foldl_nil, ByteArray.size_append, one_size, varS_one _ (by simp)]
  have b4 : (batchS [0, 1]).size = 4 := by
    unfold batchS
    rw [filesS_size _ (by intro z hz; simp at hz; omega), ByteArray.size_append, one_size, varS_one _ (by simp)]
    simp
  have h3 : headS.size = 3 := rfl
  have f1 := frame_len (bodyS 1 0 3) (by rw [b1 1 3 (by omega) (by omega) (by omega)]; omega)
  have f2 := frame_len (batchS []) (by rw [b3]; omega)
  have f3 := frame_len (bodyS 1 0 6) (by rw [b1 1 6 (by omega) (by omega) (by omega)]; omega)
  have f4 := frame_len (bodyS 4 10 3) (by rw [b2]; omega)
  have f5 := frame_len (batchS [0, 1]) (by rw [b4]; omega)
  have f6 := frame_len (bodyS 5 0 (2 : Int).toNat) (by rw [b1 5 _ (by omega) (by omega) (by omega)]; omega)
  rw [b1 1 3 (by omega) (by omega) (by omega)] at f1
  rw [b3] at f2
  rw [b1 1 6 (by omega) (by omega) (by omega)] at f3
  rw [b2] at f4
  rw [b4] at f5
  rw [b1 5 _ (by omega) (by omega) (by omega)] at f6
  simp only [ByteArray.size_append]
  omega
theorem ex_ans {x : Int} (h : Ans exP.tn exP.fn (1 + exP.tn + exP.fn) (allL exP.sn exP.tn exP.tl exP.fl) (allF exP.tn exP.sf exP.tf exP.ff) x) : x = 0 := by
  refine h.one ?_
  refine .inr (.inr (.inr (.inr ⟨by decide, by decide, ?_, ?_, rfl⟩)))
  · intro i hi
    have hi' : i < 4 := hi
    have : i = 0 ∨ i = 1 ∨ i = 2 ∨ i = 3 := by omega
    rcases this with rfl | rfl | rfl | rfl <;> decide
  · intro i k hi hk
    have hi' : i < 4 := hi
    have : i = 0 ∨ i = 1 ∨ i = 2 ∨ i = 3 := by omega
    rcases this with rfl | rfl | rfl | rfl
    · have hk' : k < 3 := hk
      have : k = 0 ∨ k = 1 ∨ k = 2 := by omega
      rcases this with rfl | rfl | rfl <;> decide
    · have hk' : k < 3 := hk
      have : k = 0 ∨ k = 1 ∨ k = 2 := by omega
      rcases this with rfl | rfl | rfl <;> decide
    · have hk' : k < 0 := hk
      omega
    · have hk' : k < 1 := hk
      have : k = 0 := by omega
      subst this
      decide

theorem push_old (os : List Obj) : ∀ (h : Array Obj) (j : Nat), j < h.size → (os.foldl Array.push h)[j]? = h[j]? := by
  induction os with
  | nil => intro h j _; rfl
  | cons o os ih =>
    intro h j hj
    rw [List.foldl_cons, ih _ j (by simp; omega), Array.getElem?_push, if_neg (by omega)]
theorem push_get (os : List Obj) : ∀ (h : Array Obj) (i : Nat), i < os.length → (os.foldl Array.push h)[h.size + i]? = os[i]? := by
  induction os with
  | nil => intro h i hi; simp at hi
  | cons o os ih =>
    intro h i hi
    rw [List.foldl_cons]
    cases i with
    | zero => rw [Nat.add_zero, push_old _ _ _ (by simp), Array.getElem?_push, if_pos rfl]; rfl
    | succ i =>
      have := ih (h.push o) i (by simp at hi; omega)
      rw [Array.size_push] at this
      rw [show h.size + (i + 1) = h.size + 1 + i by omega, this]
      rfl

/-- The example's blocks. -/
def exO (n : Nat) : List Obj := [
  .cells #[.int .i64 1, .int .i64 0, .int .i64 5, .int .i64 3, .int .i64 0, .int .i64 0, .int .i64 5, .int .i64 1, .int .i64 0] 30,
  .cells #[.slice (some ⟨n, 0, none⟩) 3 3, .slice (some ⟨n + 1 + 1 + 1, 0, none⟩) 1 1, .slice (some ⟨n + 1 + 1 + 1 + 1 + 1, 0, none⟩) 2 2] 27,
  .cells #[.int .i64 9, .int .i64 0, .int .i64 0, .int .i64 8, .int .i64 1, .int .i64 10, .int .i64 9, .int .i64 1, .int .i64 0] 30,
  .cells #[.slice (some ⟨n + 1 + 1, 0, none⟩) 3 3] 24,
  .cells #[.int .i64 6, .int .i64 1, .int .i64 0] 30,
  .cells #[.slice none 0 0, .slice (some ⟨n + 1 + 1 + 1 + 1, 0, none⟩) 1 1] 24,
  .cells #[.int .i64 3, .int .i64 6, .int .i64 9] 3,
  .cells #[.int .i64 1, .int .i64 0, .int .i64 1] 3,
  .cells #[.slice none 0 0, .slice (some ⟨n + 1 + 1 + 1 + 1 + 1 + 1 + 1, 0, none⟩) 3 3] 22,
  .cells #[.int .i64 13] 3]
def exW0 (w : World) : World := ((exO w.heap.size).take 6).foldl World.alloc w
def exW (w : World) : World := (exO w.heap.size).foldl World.alloc w
theorem fold_heap (os : List Obj) : ∀ w : World, (os.foldl World.alloc w).heap = os.foldl Array.push w.heap := by
  induction os with
  | nil => intro w; rfl
  | cons o os ih => intro w; rw [List.foldl_cons, ih]; rfl
theorem fold_fr (os : List Obj) : ∀ (w w' : World), Fr (fun _ => False) w w' (fun _ => False) → Fr (fun _ => False) w (os.foldl World.alloc w') (fun _ => False) := by
  induction os with
  | nil => intro w w' h; exact h
  | cons o os ih => intro w w' h; exact ih w _ (h.alloc o)
theorem fold_size (os : List Obj) : ∀ w : World, (os.foldl World.alloc w).heap.size = w.heap.size + os.length := by
  induction os with
  | nil => intro w; rfl
  | cons o os ih => intro w; rw [List.foldl_cons, ih]; simp; omega

theorem ex_call (w : World) (htab : TabIn w) : Calls Tryd.prog 6 #[.agg #[.slice (some ⟨w.heap.size, 0, none⟩) 3 3, .slice (some ⟨w.heap.size + 1 + 1 + 1, 0, none⟩) 1 1, .slice (some ⟨w.heap.size + 1 + 1 + 1 + 1 + 1, 0, none⟩) 2 2],
    .agg #[.slice (some ⟨w.heap.size + 1 + 1 + 1 + 1 + 1 + 1, 0, none⟩) 3 3, .slice (some ⟨w.heap.size + 1 + 1 + 1 + 1 + 1 + 1 + 1 + 1, 0, none⟩) 2 2, .slice none 0 0, .slice (some ⟨w.heap.size + 1 + 1 + 1 + 1 + 1 + 1 + 1 + 1 + 1, 0, none⟩) 1 1], .int .i64 100] (exW w)
    (RecPost (exW w) exP 100 [3, 6, 9] [(.slice none 0 0, []), (.slice (some ⟨w.heap.size + 1 + 1 + 1 + 1 + 1 + 1 + 1, 0, none⟩) 3 3, [1, 0, 1])] [] [13]) := by
  have g0 : ∀ i, i < 6 → (exW0 w).heap[w.heap.size + i]? = ((exO w.heap.size).take 6)[i]? := fun i hi => by unfold exW0; rw [fold_heap]; exact push_get _ _ i (by simpa [exO] using hi)
  have g : ∀ i, i < 10 → (exW w).heap[w.heap.size + i]? = (exO w.heap.size)[i]? := fun i hi => by unfold exW; rw [fold_heap]; exact push_get _ _ i (by simpa [exO] using hi)
  have z0 : (exW0 w).heap.size = w.heap.size + 6 := by unfold exW0; rw [fold_size]; rfl
  have z : (exW w).heap.size = w.heap.size + 10 := by unfold exW; rw [fold_size]; rfl
  have hb1 : Fr (fun _ => False) (exW0 w) (exW w) (fun _ => False) := by
    have : exW w = ((exO w.heap.size).drop 6).foldl World.alloc (exW0 w) := by
      unfold exW exW0
      rw [← List.foldl_append, List.take_append_drop]
    rw [this]
    exact fold_fr _ _ _ (Fr.refl _ _)
  have hf : Fr (fun _ => False) w (exW w) (fun _ => False) := fold_fr _ _ _ (Fr.refl _ _)
  have b0 := g0 0 (by omega)
  have b2 := g0 2 (by omega)
  have b3 := g0 3 (by omega)
  have b4 := g0 4 (by omega)
  have b5 := g0 5 (by omega)
  have c6 := g 6 (by omega)
  have c7 := g 7 (by omega)
  have c8 := g 8 (by omega)
  have c9 := g 9 (by omega)
  simp only [exO, List.take, List.getElem?_cons_zero, List.getElem?_cons_succ, Nat.add_zero] at b0 b2 b3 b4 b5 c6 c7 c8 c9
  refine record_any (w0 := exW0 w) (hb1.below (B := (exW0 w).heap.size) (fun k h => h.elim) (Nat.le_refl _)) (tabIn_below (hf.below (B := w.heap.size) (fun k h => h.elim) (Nat.le_refl _)) (tabIn_lt htab) htab) (p := exP) ?_ 100
    (L := fun q => q = w.heap.size + 7) (P := fun q => w.heap.size ≤ q ∧ q < w.heap.size + 10) (fun q hq => by rw [z]; exact hq.2) (fun q hq => by rw [z, z0]; omega) ?_ ?_ ⟨none, 0, rfl, .inl rfl⟩ ?_ ?_ (by simp) (by simp) (by simp) (by simp)
  · refine ⟨⟨some ⟨w.heap.size, 0, none⟩, 3, rfl, by decide, .inr ⟨w.heap.size, 0, rfl, ?_⟩⟩, ⟨some ⟨w.heap.size + 3, 0, none⟩, 1, rfl, by decide, .inr ⟨w.heap.size + 3, 0, rfl, ?_⟩⟩, ⟨some ⟨w.heap.size + 5, 0, none⟩, 2, rfl, by decide, .inr ⟨w.heap.size + 5, 0, rfl, ?_⟩⟩⟩
    · intro i hi
      have hi' : i < 3 := hi
      have : i = 0 ∨ i = 1 ∨ i = 2 := by omega
      rcases this with rfl | rfl | rfl
      · exact ⟨cell_of_row _ _ 0 _ 30 (0, 0) b0, cell_of_row _ _ 1 _ 30 (0, 0) b0, cell_of_row _ _ 2 _ 30 (0, 0) b0⟩
      · exact ⟨cell_of_row _ _ 3 _ 30 (0, 0) b0, cell_of_row _ _ 4 _ 30 (0, 0) b0, cell_of_row _ _ 5 _ 30 (0, 0) b0⟩
      · exact ⟨cell_of_row _ _ 6 _ 30 (0, 0) b0, cell_of_row _ _ 7 _ 30 (0, 0) b0, cell_of_row _ _ 8 _ 30 (0, 0) b0⟩
    · intro i hi
      have hi' : i < 1 := hi
      have : i = 0 := by omega
      subst this
      refine ⟨_, cell_of_row _ _ 0 _ 24 (0, 0) b3, some ⟨w.heap.size + 2, 0, none⟩, 3, rfl, by decide, .inr ⟨w.heap.size + 2, 0, rfl, ?_⟩⟩
      intro j hj
      have hj' : j < 3 := hj
      have : j = 0 ∨ j = 1 ∨ j = 2 := by omega
      rcases this with rfl | rfl | rfl
      · exact ⟨cell_of_row _ _ 0 _ 30 (0, 0) b2, cell_of_row _ _ 1 _ 30 (0, 0) b2, cell_of_row _ _ 2 _ 30 (0, 0) b2⟩
      · exact ⟨cell_of_row _ _ 3 _ 30 (0, 0) b2, cell_of_row _ _ 4 _ 30 (0, 0) b2, cell_of_row _ _ 5 _ 30 (0, 0) b2⟩
      · exact ⟨cell_of_row _ _ 6 _ 30 (0, 0) b2, cell_of_row _ _ 7 _ 30 (0, 0) b2, cell_of_row _ _ 8 _ 30 (0, 0) b2⟩
    · intro i hi
      have hi' : i < 2 := hi
      have : i = 0 ∨ i = 1 := by omega
      rcases this with rfl | rfl
      · exact ⟨_, cell_of_row _ _ 0 _ 24 (0, 0) b5, none, 0, rfl, by decide, .inl rfl⟩
      · refine ⟨_, cell_of_row _ _ 1 _ 24 (0, 0) b5, some ⟨w.heap.size + 4, 0, none⟩, 1, rfl, by decide, .inr ⟨w.heap.size + 4, 0, rfl, ?_⟩⟩
        intro j hj
        have hj' : j < 1 := hj
        have : j = 0 := by omega
        subst this
        exact ⟨cell_of_row _ _ 0 _ 30 (0, 0) b4, cell_of_row _ _ 1 _ 30 (0, 0) b4, cell_of_row _ _ 2 _ 30 (0, 0) b4⟩
  · refine ⟨some ⟨w.heap.size + 6, 0, none⟩, 3, rfl, .inr ⟨w.heap.size + 6, 0, rfl, by omega, ?_⟩⟩
    intro i hi
    have hi' : i < 3 := hi
    have : i = 0 ∨ i = 1 ∨ i = 2 := by omega
    rcases this with rfl | rfl | rfl
    · exact cell_of_row _ _ 0 _ 3 (0, 0) c6
    · exact cell_of_row _ _ 1 _ 3 (0, 0) c6
    · exact cell_of_row _ _ 2 _ 3 (0, 0) c6
  · refine ⟨some ⟨w.heap.size + 8, 0, none⟩, 2, rfl, .inr ⟨w.heap.size + 8, 0, rfl, by omega, ?_⟩⟩
    intro i hi
    have hi' : i < 2 := hi
    have : i = 0 ∨ i = 1 := by omega
    rcases this with rfl | rfl
    · exact cell_of_row _ _ 0 _ 22 (0, 0) c8
    · exact cell_of_row _ _ 1 _ 22 (0, 0) c8
  · refine ⟨some ⟨w.heap.size + 9, 0, none⟩, 1, rfl, .inr ⟨w.heap.size + 9, 0, rfl, by omega, ?_⟩⟩
    intro i hi
    have hi' : i < 1 := hi
    have : i = 0 := by omega
    subst this
    exact cell_of_row _ _ 0 _ 3 (0, 0) c9
  · intro b hb
    simp only [List.mem_cons, List.not_mem_nil, or_false] at hb
    rcases hb with rfl | rfl
    · exact ⟨⟨none, 0, rfl, .inl rfl⟩, by simp⟩
    · refine ⟨⟨some ⟨w.heap.size + 7, 0, none⟩, 3, rfl, .inr ⟨w.heap.size + 7, 0, rfl, rfl, ?_⟩⟩, by simp⟩
      intro i hi
      have hi' : i < 3 := hi
      have : i = 0 ∨ i = 1 ∨ i = 2 := by omega
      rcases this with rfl | rfl | rfl
      · exact cell_of_row _ _ 0 _ 3 (0, 0) c7
      · exact cell_of_row _ _ 1 _ 3 (0, 0) c7
      · exact cell_of_row _ _ 2 _ 3 (0, 0) c7

theorem row_ops {w : World} {B : Nat} {v : Value} {l : List O3} (h : w.ownsRow B 42 3 v l.length (flatE l)) (hl : l.length * 24 ≤ 140737488351232) : OpsIn w v l.length (fun i => l.getD i (0, 0, 0)) := by
  rcases h.2 with ⟨hv, h0⟩ | ⟨g, cap, cur, hv, hB, hg, h1, h2, h3, h4⟩
  · rw [h0]; exact ⟨none, 0, by rw [hv], by omega, .inl rfl⟩
  · refine ⟨some ⟨g, 0, none⟩, cap, hv, hl, .inr ⟨g, 0, rfl, fun i hi => ?_⟩⟩
    have fl : ∀ (l : List O3) (i : Nat), i < l.length → (flatE l)[i * 3]? = some (.int .i64 (l.getD i (0, 0, 0)).1) ∧ (flatE l)[i * 3 + 1]? = some (.int .i64 (l.getD i (0, 0, 0)).2.1) ∧ (flatE l)[i * 3 + 2]? = some (.int .i64 (l.getD i (0, 0, 0)).2.2) := by
      intro l
      induction l with
      | nil => intro i hi; simp at hi
      | cons x r ih =>
        intro i hi
        cases i with
        | zero => exact ⟨rfl, rfl, rfl⟩
        | succ i =>
          have := ih i (by simp at hi; omega)
          rw [show (i + 1) * 3 = i * 3 + 3 by omega, show i * 3 + 3 + 1 = (i * 3 + 1) + 3 by omega, show i * 3 + 3 + 2 = (i * 3 + 2) + 3 by omega]
          exact this
    have get : ∀ j u, j < l.length * 3 → (flatE l)[j]? = some u → w.cell? ⟨g, j, none⟩ = some u := by
      intro j u hj hu
      rw [cell_of_row w g j cur 42 (0, 0) hg]
      rw [← h4, List.getElem?_take, if_pos hj, Array.getElem?_toList] at hu
      exact hu
    obtain ⟨f0, f1, f2⟩ := fl l i hi
    refine ⟨?_, ?_, ?_⟩
    · rw [Nat.zero_add]; exact get _ _ (by omega) f0
    · rw [Nat.zero_add]; exact get _ _ (by omega) f1
    · rw [Nat.zero_add]; exact get _ _ (by omega) f2

set_option maxHeartbeats 4000000 in
set_option maxRecDepth 100000 in
theorem works_any (w : World) (htab : TabIn w) : Calls Tryd.prog 4 #[] w fun e w' => e = .returned (.bool true) ∧ Fr (fun _ => False) w w' (fun _ => False) := by
  have hc := ex_call w htab
  have HC := hide hc
  have hfw : Fr (fun _ => False) w (exW w) (fun _ => False) := fold_fr _ _ _ (Fr.refl _ _)
  have HFW := hide hfw
  clear hc hfw
  go_enter Tryd.func4, Tryd.ntmps4
  go_wp2_with fail
  go_at_call 6
  refine (show Calls Tryd.prog 6 _ _ _ from unhide HC).mono ?_
  rintro e w1 ⟨hf1, x, hx, hr⟩
  obtain rfl := ex_ans hx
  rcases hr with ⟨h0, _⟩ | ⟨_, vt, rfl, hrow⟩
  · exact absurd rfl h0
  have e1 := ex_trace (.slice none 0 0) (.slice (some ⟨w.heap.size + 1 + 1 + 1 + 1 + 1 + 1 + 1, 0, none⟩) 3 3)
  have e2 := ex_fin (.slice none 0 0) (.slice (some ⟨w.heap.size + 1 + 1 + 1 + 1 + 1 + 1 + 1, 0, none⟩) 3 3)
  have e3 := ex_clock (.slice none 0 0) (.slice (some ⟨w.heap.size + 1 + 1 + 1 + 1 + 1 + 1 + 1, 0, none⟩) 3 3)
  have e4 := ex_heard (.slice none 0 0) (.slice (some ⟨w.heap.size + 1 + 1 + 1 + 1 + 1 + 1 + 1, 0, none⟩) 3 3)
  have e5 := ex_size (.slice none 0 0) (.slice (some ⟨w.heap.size + 1 + 1 + 1 + 1 + 1 + 1 + 1, 0, none⟩) 3 3)
  unfold exRun at e1 e2 e3 e4 e5
  rw [e1] at hrow
  simp only [finV, e2, e3, e4]
  generalize recLog _ = lg at *
  generalize (recM exP 100 [3, 6, 9] [(Value.slice none 0 0, []), (Value.slice (some ⟨w.heap.size + 1 + 1 + 1 + 1 + 1 + 1 + 1, 0, none⟩) 3 3, [1, 0, 1])] [] [13]).1.reg = rg at *
  rcases hrow.2 with ⟨_, h0⟩ | ⟨g, cap, cur, rfl, hB, hg, h1, h2, h3, h4⟩
  · exact absurd h0 (by simp)
  have get : ∀ j, j < 12 → w1.cell? ⟨g, j, none⟩ = (flatE [(1, 0, 0), (3, 0, 5), (3, 1, 3), (2, 1, 0)])[j]? := by
    intro j hj
    rw [cell_of_row w1 g j cur 42 (0, 0) hg, ← h4, List.getElem?_take, if_pos (by simpa using hj), Array.getElem?_toList]
  have u0 : w1.cell? ⟨g, 0, none⟩ = some (.int .i64 1) := get 0 (by omega)
  have u1 : w1.cell? ⟨g, 1, none⟩ = some (.int .i64 0) := get 1 (by omega)
  have u2 : w1.cell? ⟨g, 2, none⟩ = some (.int .i64 0) := get 2 (by omega)
  have u3 : w1.cell? ⟨g, 3, none⟩ = some (.int .i64 3) := get 3 (by omega)
  have u4 : w1.cell? ⟨g, 4, none⟩ = some (.int .i64 0) := get 4 (by omega)
  have u5 : w1.cell? ⟨g, 5, none⟩ = some (.int .i64 5) := get 5 (by omega)
  have u6 : w1.cell? ⟨g, 6, none⟩ = some (.int .i64 3) := get 6 (by omega)
  have u7 : w1.cell? ⟨g, 7, none⟩ = some (.int .i64 1) := get 7 (by omega)
  have u8 : w1.cell? ⟨g, 8, none⟩ = some (.int .i64 3) := get 8 (by omega)
  have u9 : w1.cell? ⟨g, 9, none⟩ = some (.int .i64 2) := get 9 (by omega)
  have u10 : w1.cell? ⟨g, 10, none⟩ = some (.int .i64 1) := get 10 (by omega)
  have u11 : w1.cell? ⟨g, 11, none⟩ = some (.int .i64 0) := get 11 (by omega)
  have hgl : g < w1.heap.size := (Array.getElem?_eq_some_iff.1 hg).1
  have hne : g ≠ w1.heap.size := by omega
  have F1 := hide ((unhide HFW).trans hf1)
  clear get hrow hB hg h1 h2 h3 h4 hf1 e1 e2 e3 e4 hx HC
  go_wp2
  go_ret
  exact ⟨rfl, (unhide F1).alloc _⟩
end Go.Proofs.YtfmbebofllgmoaaDoor
namespace Go.Proofs.YtfmbebofllgmoaaDoor
open Go.RowKit

/-- What an element's type says. -/
structure Elem (t e size bytes : Nat) : Prop where
  u : Tryd.prog.underlying t = some (.slice e)
  i : ∃ i z, Tryd.prog.info? e = some i ∧ i.zero = some z ∧ i.size = size ∧ i.bytes = bytes ∧ z.cells.size = size
theorem elem_of (t e size bytes : Nat) (z : Value) (hu : Tryd.prog.underlying t = some (.slice e)) (h : (Tryd.prog.info? e).map (fun i => (i.zero, i.size, i.bytes)) = some (some z, size, bytes)) (hz : z.cells.size = size) : Elem t e size bytes := by
  obtain ⟨i, hi, hb⟩ := Option.map_eq_some_iff.1 h
  injection hb with h1 h2
  injection h2 with h2 h3
  exact ⟨hu, i, z, hi, h1, h2, h3, hz⟩
theorem elemI : Elem 22 3 1 8 := elem_of _ _ _ _ (.int .i64 0) Tryd.underlying22 (by kernel_rfl) rfl
theorem elemO : Elem 24 30 3 24 := elem_of _ _ _ _ (.agg #[.int .i64 0, .int .i64 0, .int .i64 0]) Tryd.underlying24 (by kernel_rfl) rfl
theorem elemH : Elem 25 24 1 24 := elem_of _ _ _ _ (.slice none 0 0) Tryd.underlying25 (by kernel_rfl) rfl
theorem elemB : Elem 31 22 1 24 := elem_of _ _ _ _ (.slice none 0 0) Tryd.underlying31 (by kernel_rfl) rfl
theorem elemE : Elem 34 42 3 24 := elem_of _ _ _ _ (.agg #[.int .i64 0, .int .i64 0, .int .i64 0]) Tryd.underlying34 (by kernel_rfl) rfl

theorem grow_fr {w w' : World} {v : Value} {g n cap : Nat} (h2 : w.grownBy w' v.ownBlock) (h3 : v.ownBlock = some g ∨ g = w.heap.size) : Fr (own v) w w' (own (.slice (some ⟨g, 0, none⟩) n cap)) := by
  refine ⟨h2.os, h2.tape, h2.output, h2.size, fun k hk hn => h2.block k hk (fun e => hn e.symm), ?_⟩
  intro k hk e
  simp only [own, Value.ownBlock, Option.some.injEq] at e
  subst e
  rcases h3 with h3 | h3
  · exact h3
  · omega

theorem wpList_grow {ops : Array Oper} {rest : List Oper} {o : Oper} {a : Act} {Q : Exit → Act → World → Prop} {w : World} {B t e size bytes : Nat} (E : Elem t e size bytes) (hs0 : 0 < size) (hs1 : bytes ≤ 100) {v : Value} {n m : Nat} {xs news : List Value} (hgd : o.guard = none) (sv xv : Operand)
    (ho : o.op = .call { callee := .builtin .append, args := #[sv, xv], argTypes := #[t, t] }) {ad : Addr} {cap : Nat} (hs : a.eval sv = v) (hx : a.eval xv = .slice (some ad) m cap) (hrow : w.ownsRow B e size v n xs) (hl : news.length = m * size)
    (hc : ∀ j u, news[j]? = some u → w.cell? (ad.add j) = some u) (h1 : ∀ u ∈ news, u.oneCell' = true) (hm : 0 < m) (hn : n + m ≤ 1000000) (hB : B ≤ w.heap.size)
    (h : ∀ v' w', w'.ownsRow B e size v' (n + m) (xs ++ news) → Fr (own v) w w' (own v') → (∃ a c, v' = .slice a (n + m) c) → wpList Tryd.prog ops Q rest (a.put o.dst v') w') : wpList Tryd.prog ops Q (o :: rest) a w := by
  obtain ⟨i, z, hi, hz, hsz, hby, hzc⟩ := E.i
  have hmx : n + m ≤ maxLen := by simp only [maxLen]; omega
  have hbb : (n + m) * bytes ≤ 140737488355328 := Nat.le_trans (Nat.mul_le_mul hn hs1) (by omega)
  refine wpList_append_lies _ hgd sv xv t ho B e i z size bytes E.u hi hz hsz hby hzc hs0 v n xs hs hrow ad m cap news hx hl hc h1 hm hmx hbb hB w.heap.size rfl ?_
  intro g cp w' h1 h2 h3 h4
  exact h _ w' h1 (grow_fr h2 h3) ⟨_, _, rfl⟩
theorem step_grow {ops : Array Oper} {o : Oper} {a : Act} {K : Act → World → Prop} {Q : Exit → Act → World → Prop} {E' : Prop} {w : World} {B t e size bytes : Nat} (E : Elem t e size bytes) (hs0 : 0 < size) (hs1 : bytes ≤ 100) {v : Value} {n m : Nat} {xs news : List Value} (hgd : o.guard = none) (sv xv : Operand)
    (ho : o.op = .call { callee := .builtin .append, args := #[sv, xv], argTypes := #[t, t] }) {ad : Addr} {cap : Nat} (hs : a.eval sv = v) (hx : a.eval xv = .slice (some ad) m cap) (hrow : w.ownsRow B e size v n xs) (hl : news.length = m * size)
    (hc : ∀ j u, news[j]? = some u → w.cell? (ad.add j) = some u) (h1 : ∀ u ∈ news, u.oneCell' = true) (hm : 0 < m) (hn : n + m ≤ 1000000) (hB : B ≤ w.heap.size)
    (h : ∀ v' w', w'.ownsRow B e size v' (n + m) (xs ++ news) → Fr (own v) w w' (own v') → (∃ a c, v' = .slice a (n + m) c) → K (a.put o.dst v') w') : if Region.wanted o (yielded ops a.tmps) = true then Oper.wp Tryd.prog o a w K Q else E' := by
  obtain ⟨i, z, hi, hz, hsz, hby, hzc⟩ := E.i
  have hmx : n + m ≤ maxLen := by simp only [maxLen]; omega
  have hbb : (n + m) * bytes ≤ 140737488355328 := Nat.le_trans (Nat.mul_le_mul hn hs1) (by omega)
  refine step_append_lies _ hgd sv xv t ho B e i z size bytes E.u hi hz hsz hby hzc hs0 v n xs hs hrow ad m cap news hx hl hc h1 hm hmx hbb hB w.heap.size rfl ?_
  intro g cp w' h1 h2 h3 h4
  exact h _ w' h1 (grow_fr h2 h3) ⟨_, _, rfl⟩
end Go.Proofs.YtfmbebofllgmoaaDoor
namespace Go.Proofs.YtfmbebofllgmoaaDoor
open Go.RowKit

def slG (g : Nat) : Value := .slice (some ⟨g, 0, none⟩) 1 1
def emitO : Obj := .cells #[.int .i64 9, .int .i64 1, .int .i64 0] 30
/-- Times, the start's operations, the handlers: all in rows of the call's own. -/
structure L1 (w : World) (pb : Nat) (wr : World) (u : Value) (ats : List Int) (vs : Value) (so : List O3) (vm : Value) (gs : List Nat) : Prop where
  fr : Fr (fun _ => False) w wr (fun _ => False)
  pbn : w.heap.size ≤ pb ∧ pb < wr.heap.size
  c0 : wr.cell? ⟨pb, 0, none⟩ = some vs
  c1 : wr.cell? ⟨pb, 1, none⟩ = some vm
  c2 : wr.cell? ⟨pb, 2, none⟩ = some (.slice none 0 0)
  fz : ∀ j, wr.frozen? ⟨pb, j, none⟩ = false
  at_ : OwnI wr w.heap.size u ats
  st : wr.ownsRow w.heap.size 30 3 vs so.length (flatE so)
  tm : wr.ownsRow w.heap.size 24 1 vm gs.length (gs.map slG)
  gh : ∀ g, g ∈ gs → wr.heap[g]? = some emitO ∧ w.heap.size ≤ g ∧ g ≠ pb ∧ ¬ own u g ∧ ¬ own vs g ∧ ¬ own vm g
  sep : ¬ own u pb ∧ ¬ own vs pb ∧ ¬ own vm pb ∧ (∀ k, own u k → ¬ own vs k ∧ ¬ own vm k) ∧ (∀ k, own vs k → ¬ own vm k)

section
variable {w wr : World} {pb : Nat} {u vs vm : Value} {ats : List Int} {so : List O3} {gs : List Nat}
theorem L1.ltu (h : L1 w pb wr u ats vs so vm gs) {k : Nat} (hk : own u k) : w.heap.size ≤ k ∧ k < wr.heap.size := World.ownsRow.lt h.at_ k hk
theorem L1.lts (h : L1 w pb wr u ats vs so vm gs) {k : Nat} (hk : own vs k) : w.heap.size ≤ k ∧ k < wr.heap.size := World.ownsRow.lt h.st k hk
theorem L1.ltm (h : L1 w pb wr u ats vs so vm gs) {k : Nat} (hk : own vm k) : w.heap.size ≤ k ∧ k < wr.heap.size := World.ownsRow.lt h.tm k hk
theorem L1.ltg (h : L1 w pb wr u ats vs so vm gs) {k : Nat} (hk : k ∈ gs) : k < wr.heap.size := (Array.getElem?_eq_some_iff.1 (h.gh k hk).1).1

/-- Nothing of it has turned. -/
theorem L1.keep (h : L1 w pb wr u ats vs so vm gs) {W : World} (hf : Fr (fun _ => False) wr W (fun _ => False)) : L1 w pb W u ats vs so vm gs := by
  have e : ∀ k, k < wr.heap.size → W.heap[k]? = wr.heap[k]? := fun k hk => hf.same k hk (fun h => h)
  have ep := e pb h.pbn.2
  refine ⟨h.fr.trans hf, ⟨h.pbn.1, Nat.lt_of_lt_of_le h.pbn.2 hf.size⟩, (World.cell?_of_block (w := wr) (a := ⟨pb, 0, none⟩) ep).trans h.c0, (World.cell?_of_block (w := wr) (a := ⟨pb, 1, none⟩) ep).trans h.c1, (World.cell?_of_block (w := wr) (a := ⟨pb, 2, none⟩) ep).trans h.c2,
    fun j => (World.frozen?_of_block (w := wr) (a := ⟨pb, j, none⟩) ep).trans (h.fz j), ownsRow_of_block h.at_ (fun q hq => e q (h.ltu hq).2), ownsRow_of_block h.st (fun q hq => e q (h.lts hq).2), ownsRow_of_block h.tm (fun q hq => e q (h.ltm hq).2),
    fun g hg => ⟨(e g (h.ltg hg)).trans (h.gh g hg).1, (h.gh g hg).2⟩, h.sep⟩

/-- One time more. -/
theorem L1.growAt (h : L1 w pb wr u ats vs so vm gs) {W : World} {u' : Value} {ats' : List Int} (hr : OwnI W w.heap.size u' ats') (hf : Fr (own u) wr W (own u')) : L1 w pb W u' ats' vs so vm gs := by
  have hu' : ∀ k, own u' k → own u k ∨ wr.heap.size ≤ k := fun k hk => by
    by_cases hlt : k < wr.heap.size
    · exact .inl (hf.old k hlt hk)
    · exact .inr (by omega)
  have ep : W.heap[pb]? = wr.heap[pb]? := hf.same pb h.pbn.2 h.sep.1
  refine ⟨h.fr.fresh hf (fun k hk => (h.ltu hk).1), ⟨h.pbn.1, Nat.lt_of_lt_of_le h.pbn.2 hf.size⟩, (World.cell?_of_block (w := wr) (a := ⟨pb, 0, none⟩) ep).trans h.c0, (World.cell?_of_block (w := wr) (a := ⟨pb, 1, none⟩) ep).trans h.c1, (World.cell?_of_block (w := wr) (a := ⟨pb, 2, none⟩) ep).trans h.c2,
    fun j => (World.frozen?_of_block (w := wr) (a := ⟨pb, j, none⟩) ep).trans (h.fz j), hr, ownsRow_of_block h.st (fun q hq => hf.same q (h.lts hq).2 (fun e => (h.sep.2.2.2.1 q e).1 hq)), ownsRow_of_block h.tm (fun q hq => hf.same q (h.ltm hq).2 (fun e => (h.sep.2.2.2.1 q e).2 hq)),
    fun g hg => ?_, ?_, h.sep.2.1, h.sep.2.2.1, ?_, h.sep.2.2.2.2⟩
  · obtain ⟨g1, g2, g3, g4, g5, g6⟩ := h.gh g hg
    refine ⟨(hf.same g (h.ltg hg) g4).trans g1, g2, g3, fun e => ?_, g5, g6⟩
    rcases hu' g e with e | e
    · exact g4 e
    · have := h.ltg hg; omega
  · intro e
    rcases hu' pb e with e | e
    · exact h.sep.1 e
    · have := h.pbn.2; omega
  · intro k hk
    rcases hu' k hk with e | e
    · exact h.sep.2.2.2.1 k e
    · exact ⟨fun hs => by have := (h.lts hs).2; omega, fun hs => by have := (h.ltm hs).2; omega⟩

theorem cellset {W : World} {b j i : Nat} {v v' : Value} (h : W.cell? ⟨b, j, none⟩ = some v) (hne : j ≠ i) : (W.setCell ⟨b, i, none⟩ v').cell? ⟨b, j, none⟩ = some v := by
  rw [World.cell?_setCell_other _ _ _ _ (by intro he; injection he; omega), h]

/-- More operations of the start. -/
theorem L1.growSt (h : L1 w pb wr u ats vs so vm gs) {W : World} {vs' : Value} {so' : List O3} (hr : W.ownsRow w.heap.size 30 3 vs' so'.length (flatE so')) (hf : Fr (own vs) wr W (own vs')) : L1 w pb (W.setCell ⟨pb, 0, none⟩ vs') u ats vs' so' vm gs := by
  have hu' : ∀ k, own vs' k → own vs k ∨ wr.heap.size ≤ k := fun k hk => by
    by_cases hlt : k < wr.heap.size
    · exact .inl (hf.old k hlt hk)
    · exact .inr (by omega)
  have ep : W.heap[pb]? = wr.heap[pb]? := hf.same pb h.pbn.2 h.sep.2.1
  have hz : (W.setCell ⟨pb, 0, none⟩ vs').heap.size = W.heap.size := by simp [World.setCell]
  have o : ∀ k, k ≠ pb → (W.setCell ⟨pb, 0, none⟩ vs').heap[k]? = W.heap[k]? := fun k hk => Below.heap_setCell _ _ _ _ hk
  have hnp : ¬ own vs' pb := fun e => by
    rcases hu' pb e with e | e
    · exact h.sep.2.1 e
    · have := h.pbn.2; omega
  have hnu : ∀ k, own u k → ¬ own vs' k := fun k hk e => by
    rcases hu' k e with e | e
    · exact (h.sep.2.2.2.1 k hk).1 e
    · have := (h.ltu hk).2; omega
  refine ⟨(h.fr.fresh hf (fun k hk => (h.lts hk).1)).setCell _ _ (.inr h.pbn.1), ⟨h.pbn.1, by rw [hz]; exact Nat.lt_of_lt_of_le h.pbn.2 hf.size⟩, World.cell?_setCell_same' _ _ _ (by rw [World.cell?_of_block (w := wr) (a := ⟨pb, 0, none⟩) ep, h.c0]; rfl),
    cellset ((World.cell?_of_block (w := wr) (a := ⟨pb, 1, none⟩) ep).trans h.c1) (by omega), cellset ((World.cell?_of_block (w := wr) (a := ⟨pb, 2, none⟩) ep).trans h.c2) (by omega),
    fun j => by rw [World.frozen?_setCell]; exact (World.frozen?_of_block (w := wr) (a := ⟨pb, j, none⟩) ep).trans (h.fz j),
    ownsRow_of_block h.at_ (fun q hq => (o q (by rintro rfl; exact h.sep.1 hq)).trans (hf.same q (h.ltu hq).2 (h.sep.2.2.2.1 q hq).1)), ownsRow_of_block hr (fun q hq => o q (by rintro rfl; exact hnp hq)),
    ownsRow_of_block h.tm (fun q hq => (o q (by rintro rfl; exact h.sep.2.2.1 hq)).trans (hf.same q (h.ltm hq).2 (fun e => h.sep.2.2.2.2 q e hq))), fun g hg => ?_, h.sep.1, hnp, h.sep.2.2.1, fun k hk => ⟨hnu k hk, (h.sep.2.2.2.1 k hk).2⟩, fun k hk e => ?_⟩
  · obtain ⟨g1, g2, g3, g4, g5, g6⟩ := h.gh g hg
    refine ⟨(o g g3).trans ((hf.same g (h.ltg hg) g5).trans g1), g2, g3, g4, fun e => ?_, g6⟩
    rcases hu' g e with e | e
    · exact g5 e
    · have := h.ltg hg; omega
  · rcases hu' k hk with e' | e'
    · exact h.sep.2.2.2.2 k e' e
    · have := (h.ltm e).2; omega

/-- One handler more. -/
theorem L1.growTm (h : L1 w pb wr u ats vs so vm gs) {W : World} {vm' : Value} {g : Nat} (hg : wr.heap[g]? = some emitO) (hgn : w.heap.size ≤ g ∧ g ≠ pb ∧ ¬ own u g ∧ ¬ own vs g ∧ ¬ own vm g) (hr : W.ownsRow w.heap.size 24 1 vm' (gs ++ [g]).length ((gs ++ [g]).map slG)) (hf : Fr (own vm) wr W (own vm')) :
    L1 w pb (W.setCell ⟨pb, 1, none⟩ vm') u ats vs so vm' (gs ++ [g]) := by
  have hglt : g < wr.heap.size := (Array.getElem?_eq_some_iff.1 hg).1
  have hu' : ∀ k, own vm' k → own vm k ∨ wr.heap.size ≤ k := fun k hk => by
    by_cases hlt : k < wr.heap.size
    · exact .inl (hf.old k hlt hk)
    · exact .inr (by omega)
  have ep : W.heap[pb]? = wr.heap[pb]? := hf.same pb h.pbn.2 h.sep.2.2.1
  have hz : (W.setCell ⟨pb, 1, none⟩ vm').heap.size = W.heap.size := by simp [World.setCell]
  have o : ∀ k, k ≠ pb → (W.setCell ⟨pb, 1, none⟩ vm').heap[k]? = W.heap[k]? := fun k hk => Below.heap_setCell _ _ _ _ hk
  have hnp : ¬ own vm' pb := fun e => by
    rcases hu' pb e with e | e
    · exact h.sep.2.2.1 e
    · have := h.pbn.2; omega
  refine ⟨(h.fr.fresh hf (fun k hk => (h.ltm hk).1)).setCell _ _ (.inr h.pbn.1), ⟨h.pbn.1, by rw [hz]; exact Nat.lt_of_lt_of_le h.pbn.2 hf.size⟩, cellset ((World.cell?_of_block (w := wr) (a := ⟨pb, 0, none⟩) ep).trans h.c0) (by omega),
    World.cell?_setCell_same' _ _ _ (by rw [World.cell?_of_block (w := wr) (a := ⟨pb, 1, none⟩) ep, h.c1]; rfl), cellset ((World.cell?_of_block (w := wr) (a := ⟨pb, 2, none⟩) ep).trans h.c2) (by omega),
    fun j => by rw [World.frozen?_setCell]; exact (World.frozen?_of_block (w := wr) (a := ⟨pb, j, none⟩) ep).trans (h.fz j),
    ownsRow_of_block h.at_ (fun q hq => (o q (by rintro rfl; exact h.sep.1 hq)).trans (hf.same q (h.ltu hq).2 (h.sep.2.2.2.1 q hq).2)), ownsRow_of_block h.st (fun q hq => (o q (by rintro rfl; exact h.sep.2.1 hq)).trans (hf.same q (h.lts hq).2 (h.sep.2.2.2.2 q hq))),
    ownsRow_of_block hr (fun q hq => o q (by rintro rfl; exact hnp hq)), fun g' hg' => ?_, h.sep.1, h.sep.2.1, hnp, fun k hk => ⟨(h.sep.2.2.2.1 k hk).1, fun e => ?_⟩, fun k hk e => ?_⟩
  · have key : wr.heap[g']? = some emitO ∧ w.heap.size ≤ g' ∧ g' ≠ pb ∧ ¬ own u g' ∧ ¬ own vs g' ∧ ¬ own vm g' := by
      rcases List.mem_append.1 hg' with e | e
      · exact h.gh g' e
      · simp only [List.mem_singleton] at e
        subst e
        exact ⟨hg, hgn⟩
    obtain ⟨g1, g2, g3, g4, g5, g6⟩ := key
    have hlt : g' < wr.heap.size := (Array.getElem?_eq_some_iff.1 g1).1
    refine ⟨(o g' g3).trans ((hf.same g' hlt g6).trans g1), g2, g3, g4, g5, fun e => ?_⟩
    rcases hu' g' e with e | e
    · exact g6 e
    · omega
  · rcases hu' k e with e' | e'
    · exact (h.sep.2.2.2.1 k hk).2 e'
    · have := (h.ltu hk).2; omega
  · rcases hu' k e with e' | e'
    · exact h.sep.2.2.2.2 k hk e'
    · have := (h.lts hk).2; omega
end
end Go.Proofs.YtfmbebofllgmoaaDoor
namespace Go.Proofs.YtfmbebofllgmoaaDoor
open Go.RowKit

/-- Times and empty batches: in rows of the call's own. -/
structure L2 (w : World) (pb : Nat) (wr : World) (u : Value) (cs : List Int) (vb : Value) (n : Nat) : Prop where
  fr : Fr (fun _ => False) w wr (fun _ => False)
  pbn : w.heap.size ≤ pb ∧ pb < wr.heap.size
  c0 : wr.cell? ⟨pb, 0, none⟩ = some u
  c1 : wr.cell? ⟨pb, 1, none⟩ = some vb
  c2 : wr.cell? ⟨pb, 2, none⟩ = some (.slice none 0 0)
  c3 : wr.cell? ⟨pb, 3, none⟩ = some (.slice none 0 0)
  fz : ∀ j, wr.frozen? ⟨pb, j, none⟩ = false
  at_ : OwnI wr w.heap.size u cs
  bt : wr.ownsRow w.heap.size 22 1 vb n (List.replicate n (.slice none 0 0))
  sep : ¬ own u pb ∧ ¬ own vb pb ∧ (∀ k, own u k → ¬ own vb k)

section
variable {w wr : World} {pb : Nat} {u vb : Value} {cs : List Int} {n : Nat}
theorem L2.ltu (h : L2 w pb wr u cs vb n) {k : Nat} (hk : own u k) : w.heap.size ≤ k ∧ k < wr.heap.size := World.ownsRow.lt h.at_ k hk
theorem L2.ltb (h : L2 w pb wr u cs vb n) {k : Nat} (hk : own vb k) : w.heap.size ≤ k ∧ k < wr.heap.size := World.ownsRow.lt h.bt k hk
theorem L2.keep (h : L2 w pb wr u cs vb n) {W : World} (hf : Fr (fun _ => False) wr W (fun _ => False)) : L2 w pb W u cs vb n := by
  have e : ∀ k, k < wr.heap.size → W.heap[k]? = wr.heap[k]? := fun k hk => hf.same k hk (fun h => h)
  have ep := e pb h.pbn.2
  exact ⟨h.fr.trans hf, ⟨h.pbn.1, Nat.lt_of_lt_of_le h.pbn.2 hf.size⟩, (World.cell?_of_block (w := wr) (a := ⟨pb, 0, none⟩) ep).trans h.c0, (World.cell?_of_block (w := wr) (a := ⟨pb, 1, none⟩) ep).trans h.c1, (World.cell?_of_block (w := wr) (a := ⟨pb, 2, none⟩) ep).trans h.c2, (World.cell?_of_block (w := wr) (a := ⟨pb, 3, none⟩) ep).trans h.c3,
    fun j => (World.frozen?_of_block (w := wr) (a := ⟨pb, j, none⟩) ep).trans (h.fz j), ownsRow_of_block h.at_ (fun q hq => e q (h.ltu hq).2), ownsRow_of_block h.bt (fun q hq => e q (h.ltb hq).2), h.sep⟩
theorem L2.growC (h : L2 w pb wr u cs vb n) {W : World} {u' : Value} {cs' : List Int} (hr : OwnI W w.heap.size u' cs') (hf : Fr (own u) wr W (own u')) : L2 w pb (W.setCell ⟨pb, 0, none⟩ u') u' cs' vb n := by
  have hu' : ∀ k, own u' k → own u k ∨ wr.heap.size ≤ k := fun k hk => by
    by_cases hlt : k < wr.heap.size
    · exact .inl (hf.old k hlt hk)
    · exact .inr (by omega)
  have ep : W.heap[pb]? = wr.heap[pb]? := hf.same pb h.pbn.2 h.sep.1
  have hz : (W.setCell ⟨pb, 0, none⟩ u').heap.size = W.heap.size := by simp [World.setCell]
  have o : ∀ k, k ≠ pb → (W.setCell ⟨pb, 0, none⟩ u').heap[k]? = W.heap[k]? := fun k hk => Below.heap_setCell _ _ _ _ hk
  have hnp : ¬ own u' pb := fun e => by
    rcases hu' pb e with e | e
    · exact h.sep.1 e
    · have := h.pbn.2; omega
  refine ⟨(h.fr.fresh hf (fun k hk => (h.ltu hk).1)).setCell _ _ (.inr h.pbn.1), ⟨h.pbn.1, by rw [hz]; exact Nat.lt_of_lt_of_le h.pbn.2 hf.size⟩, World.cell?_setCell_same' _ _ _ (by rw [World.cell?_of_block (w := wr) (a := ⟨pb, 0, none⟩) ep, h.c0]; rfl),
    cellset ((World.cell?_of_block (w := wr) (a := ⟨pb, 1, none⟩) ep).trans h.c1) (by omega), cellset ((World.cell?_of_block (w := wr) (a := ⟨pb, 2, none⟩) ep).trans h.c2) (by omega), cellset ((World.cell?_of_block (w := wr) (a := ⟨pb, 3, none⟩) ep).trans h.c3) (by omega),
    fun j => by rw [World.frozen?_setCell]; exact (World.frozen?_of_block (w := wr) (a := ⟨pb, j, none⟩) ep).trans (h.fz j), ownsRow_of_block hr (fun q hq => o q (by rintro rfl; exact hnp hq)),
    ownsRow_of_block h.bt (fun q hq => (o q (by rintro rfl; exact h.sep.2.1 hq)).trans (hf.same q (h.ltb hq).2 (fun e => h.sep.2.2 q e hq))), hnp, h.sep.2.1, fun k hk e => ?_⟩
  rcases hu' k hk with e' | e'
  · exact h.sep.2.2 k e' e
  · have := (h.ltb e).2; omega
theorem L2.growB (h : L2 w pb wr u cs vb n) {W : World} {vb' : Value} {n' : Nat} (hr : W.ownsRow w.heap.size 22 1 vb' n' (List.replicate n' (.slice none 0 0))) (hf : Fr (own vb) wr W (own vb')) : L2 w pb (W.setCell ⟨pb, 1, none⟩ vb') u cs vb' n' := by
  have hu' : ∀ k, own vb' k → own vb k ∨ wr.heap.size ≤ k := fun k hk => by
    by_cases hlt : k < wr.heap.size
    · exact .inl (hf.old k hlt hk)
    · exact .inr (by omega)
  have ep : W.heap[pb]? = wr.heap[pb]? := hf.same pb h.pbn.2 h.sep.2.1
  have hz : (W.setCell ⟨pb, 1, none⟩ vb').heap.size = W.heap.size := by simp [World.setCell]
  have o : ∀ k, k ≠ pb → (W.setCell ⟨pb, 1, none⟩ vb').heap[k]? = W.heap[k]? := fun k hk => Below.heap_setCell _ _ _ _ hk
  have hnp : ¬ own vb' pb := fun e => by
    rcases hu' pb e with e | e
    · exact h.sep.2.1 e
    · have := h.pbn.2; omega
  refine ⟨(h.fr.fresh hf (fun k hk => (h.ltb hk).1)).setCell _ _ (.inr h.pbn.1), ⟨h.pbn.1, by rw [hz]; exact Nat.lt_of_lt_of_le h.pbn.2 hf.size⟩, cellset ((World.cell?_of_block (w := wr) (a := ⟨pb, 0, none⟩) ep).trans h.c0) (by omega),
    World.cell?_setCell_same' _ _ _ (by rw [World.cell?_of_block (w := wr) (a := ⟨pb, 1, none⟩) ep, h.c1]; rfl), cellset ((World.cell?_of_block (w := wr) (a := ⟨pb, 2, none⟩) ep).trans h.c2) (by omega), cellset ((World.cell?_of_block (w := wr) (a := ⟨pb, 3, none⟩) ep).trans h.c3) (by omega),
    fun j => by rw [World.frozen?_setCell]; exact (World.frozen?_of_block (w := wr) (a := ⟨pb, j, none⟩) ep).trans (h.fz j), ownsRow_of_block h.at_ (fun q hq => (o q (by rintro rfl; exact h.sep.1 hq)).trans (hf.same q (h.ltu hq).2 (h.sep.2.2 q hq))),
    ownsRow_of_block hr (fun q hq => o q (by rintro rfl; exact hnp hq)), h.sep.1, hnp, fun k hk e => ?_⟩
  rcases hu' k e with e' | e'
  · exact h.sep.2.2 k hk e'
  · have := (h.ltu hk).2; omega
theorem L2.start (w : World) : L2 w w.heap.size (w.alloc (.cells #[.slice none 0 0, .slice none 0 0, .slice none 0 0, .slice none 0 0] 33)) (.slice none 0 0) [] (.slice none 0 0) 0 := by
  have hb := heap_alloc_new w (.cells #[.slice none 0 0, .slice none 0 0, .slice none 0 0, .slice none 0 0] 33)
  refine ⟨(Fr.refl _ w).alloc _, ⟨Nat.le_refl _, by simp⟩, cell_of_row _ _ 0 _ 33 (0, 0) hb, cell_of_row _ _ 1 _ 33 (0, 0) hb, cell_of_row _ _ 2 _ 33 (0, 0) hb, cell_of_row _ _ 3 _ 33 (0, 0) hb, fun j => frozen_rowE hb j, World.ownsRow_nil _ _ _ _, World.ownsRow_nil _ _ _ _, ?_⟩
  refine ⟨?_, ?_, ?_⟩ <;> simp [own, Value.ownBlock]
end

/-- The time behind k steps, and the times. -/
def nowK (cl : List Int) : Nat → Int
  | 0 => 0
  | k + 1 => nowK cl k + pickI (cl.getD k 0) 6
def csK (cl : List Int) (k : Nat) : List Int := (List.range k).map fun j => nowK cl (j + 1)
theorem csK_succ (cl : List Int) (k : Nat) : csK cl (k + 1) = csK cl k ++ [nowK cl (k + 1)] := by simp [csK, List.range_succ]
theorem csK_length (cl : List Int) (k : Nat) : (csK cl k).length = k := by simp [csK]
theorem nowK_le (cl : List Int) (k : Nat) : 0 ≤ nowK cl k ∧ nowK cl k ≤ 6 * k := by
  induction k with
  | zero => simp [nowK]
  | succ k ih =>
    have := pickI_range (cl.getD k 0) 6 (by omega)
    simp only [nowK]
    omega
def Rel2 (w : World) (wb : Nat) (cl : List Int) (u i : Value) (wr : World) : Prop := ∃ (k : Nat) (vc vb : Value), k ≤ min cl.length 40 ∧ u = .int .i64 (nowK cl k) ∧ i = .int .i64 k ∧ L2 w wb wr vc (csK cl k) vb k
end Go.Proofs.YtfmbebofllgmoaaDoor
namespace Go.Proofs.YtfmbebofllgmoaaDoor
open Go.RowKit

def atO (raw : List Int) (j : Nat) : Int := pickI (raw.getD j 0) 30
def atsK (raw : List Int) (k : Nat) : List Int := (List.range k).map (atO raw)
def soK (raw : List Int) (k : Nat) : List O3 := (List.range k).flatMap fun (j : Nat) => [(1, 0, atO raw j), (3, (j : Int), 0)]
theorem atsK_succ (raw : List Int) (k : Nat) : atsK raw (k + 1) = atsK raw k ++ [atO raw k] := by simp [atsK, List.range_succ]
theorem soK_succ (raw : List Int) (k : Nat) : soK raw (k + 1) = soK raw k ++ [(1, 0, atO raw k), (3, (k : Int), 0)] := by simp [soK, List.range_succ]
theorem atsK_length (raw : List Int) (k : Nat) : (atsK raw k).length = k := by simp [atsK]
theorem soK_length (raw : List Int) (k : Nat) : (soK raw k).length = 2 * k := by
  induction k with
  | zero => rfl
  | succ k ih => rw [soK_succ, List.length_append, ih]; simp; omega
theorem oAt_atsK (raw : List Int) (k i : Nat) : oAt (atsK raw k) i = if i < k then atO raw i else 0 := by
  unfold oAt atsK
  by_cases h : i < k
  · simp [List.getD, h]
  · simp [List.getD, h]
theorem oAt_range (raw : List Int) (k i : Nat) : 0 ≤ oAt (atsK raw k) i ∧ oAt (atsK raw k) i < 30 := by
  rw [oAt_atsK]
  split
  · exact pickI_range _ 30 (by omega)
  · omega
theorem soK_get (raw : List Int) (k : Nat) : ∀ i, i < 2 * k → (soK raw k).getD i (0, 0, 0) = (ordP (atsK raw k)).sf i := by
  have key : ∀ n k, n ≤ k → ∀ i, i < 2 * n → (soK raw n).getD i (0, 0, 0) = (ordP (atsK raw k)).sf i := by
    intro n
    induction n with
    | zero => intro k _ i hi; omega
    | succ n ih =>
      intro k hk i hi
      rw [soK_succ]
      by_cases hlt : i < 2 * n
      · rw [List.getD, List.getElem?_append_left (by rw [soK_length]; exact hlt)]
        exact ih k (by omega) i hlt
      · have e : i = 2 * n ∨ i = 2 * n + 1 := by omega
        rw [List.getD, List.getElem?_append_right (by rw [soK_length]; omega), soK_length]
        rcases e with rfl | rfl
        · have h1 : 2 * n % 2 = 0 := by omega
          have h2 : 2 * n / 2 = n := by omega
          simp only [ordP, h1, h2, if_true, Nat.sub_self, oAt_atsK]
          rw [if_pos (by omega)]
          rfl
        · have h1 : (2 * n + 1) % 2 = 1 := by omega
          have h2 : (2 * n + 1) / 2 = n := by omega
          have h3 : 2 * n + 1 - 2 * n = 1 := by omega
          simp only [ordP, h1, h2, h3]
          rfl
  exact key k k (Nat.le_refl _)

theorem row_ops' {w : World} {B e : Nat} {v : Value} {l : List O3} (h : w.ownsRow B e 3 v l.length (flatE l)) (hl : l.length * 24 ≤ 140737488351232) : OpsIn w v l.length (fun i => l.getD i (0, 0, 0)) := by
  rcases h.2 with ⟨hv, h0⟩ | ⟨g, cap, cur, hv, hB, hg, h1, h2, h3, h4⟩
  · rw [h0]; exact ⟨none, 0, by rw [hv], by omega, .inl rfl⟩
  · refine ⟨some ⟨g, 0, none⟩, cap, hv, hl, .inr ⟨g, 0, rfl, fun i hi => ?_⟩⟩
    have fl : ∀ (l : List O3) (i : Nat), i < l.length → (flatE l)[i * 3]? = some (.int .i64 (l.getD i (0, 0, 0)).1) ∧ (flatE l)[i * 3 + 1]? = some (.int .i64 (l.getD i (0, 0, 0)).2.1) ∧ (flatE l)[i * 3 + 2]? = some (.int .i64 (l.getD i (0, 0, 0)).2.2) := by
      intro l
      induction l with
      | nil => intro i hi; simp at hi
      | cons x r ih =>
        intro i hi
        cases i with
        | zero => exact ⟨rfl, rfl, rfl⟩
        | succ i =>
          have := ih i (by simp at hi; omega)
          rw [show (i + 1) * 3 = i * 3 + 3 by omega, show i * 3 + 3 + 1 = (i * 3 + 1) + 3 by omega, show i * 3 + 3 + 2 = (i * 3 + 2) + 3 by omega]
          exact this
    have get : ∀ j u, j < l.length * 3 → (flatE l)[j]? = some u → w.cell? ⟨g, j, none⟩ = some u := by
      intro j u hj hu
      rw [cell_of_row w g j cur e (0, 0) hg]
      rw [← h4, List.getElem?_take, if_pos hj, Array.getElem?_toList] at hu
      exact hu
    obtain ⟨f0, f1, f2⟩ := fl l i hi
    refine ⟨?_, ?_, ?_⟩
    · rw [Nat.zero_add]; exact get _ _ (by omega) f0
    · rw [Nat.zero_add]; exact get _ _ (by omega) f1
    · rw [Nat.zero_add]; exact get _ _ (by omega) f2
theorem OpsIn.congr {w : World} {v : Value} {n : Nat} {f g : Nat → O3} (h : OpsIn w v n f) (e : ∀ i, i < n → f i = g i) : OpsIn w v n g := by
  obtain ⟨a, c, hv, hn, hc⟩ := h
  exact ⟨a, c, hv, hn, hc.imp id fun ⟨b, off, ha, hf⟩ => ⟨b, off, ha, fun i hi => e i hi ▸ hf i hi⟩⟩
theorem row_get {w : World} {B e : Nat} {v : Value} {n : Nat} {xs : List Value} (h : w.ownsRow B e 1 v n xs) (hn : 0 < n) : ∃ g cap, v = .slice (some ⟨g, 0, none⟩) n cap ∧ B ≤ g ∧ g < w.heap.size ∧ ∀ i u, xs[i]? = some u → w.cell? ⟨g, 0 + i, none⟩ = some u := by
  rcases h.2 with ⟨_, h0⟩ | ⟨g, cap, cur, hv, hB, hg, h1, h2, h3, h4⟩
  · omega
  refine ⟨g, cap, hv, hB, (Array.getElem?_eq_some_iff.1 hg).1, fun i u hu => ?_⟩
  rw [Nat.zero_add, cell_of_row w g i cur e (0, 0) hg]
  rw [← h4, List.getElem?_take] at hu
  split at hu
  · rwa [Array.getElem?_toList] at hu
  · cases hu

theorem L1.pgAt {w wr : World} {pb : Nat} {u vs vm : Value} {raw : List Int} {k : Nat} {gs : List Nat} (h : L1 w pb wr u (atsK raw k) vs (soK raw k) vm gs) (hk : k ≤ 8) (hg : gs.length = k) : PgAt wr (pvOf vs vm (.slice none 0 0) undef) (ordP (atsK raw k)) := by
  refine ⟨?_, ?_, ⟨none, 0, rfl, by simp [ordP], .inl rfl⟩⟩
  · have h1 := row_ops' h.st (by rw [soK_length]; omega)
    rw [soK_length] at h1
    have e : (ordP (atsK raw k)).sn = 2 * k := by show 2 * (atsK raw k).length = 2 * k; rw [atsK_length]
    rw [e]
    exact h1.congr (soK_get raw k)
  · have e : (ordP (atsK raw k)).tn = k := by show (atsK raw k).length = k; rw [atsK_length]
    rw [e]
    show HandsIn wr vm k (fun _ => 1) (fun _ _ => (9, 1, 0))
    by_cases h0 : k = 0
    · subst h0
      have hn := List.length_eq_zero_iff.1 hg
      subst hn
      rcases h.tm.2 with ⟨hv, _⟩ | ⟨g, cap, cur, hv, _⟩
      · exact ⟨none, 0, hv, by omega, .inl rfl⟩
      · exact ⟨_, cap, hv, by omega, .inl rfl⟩
    · have htm := h.tm
      rw [hg] at htm
      obtain ⟨g, cap, hv, _, _, hc⟩ := row_get htm (by omega)
      refine ⟨_, cap, hv, by omega, .inr ⟨g, 0, rfl, fun i hi => ?_⟩⟩
      have hlt : i < gs.length := by omega
      have hgh := h.gh gs[i] (List.getElem_mem hlt)
      refine ⟨slG gs[i], hc i _ (by simp [hlt]), some ⟨gs[i], 0, none⟩, 1, rfl, (by show 1 * 24 ≤ 140737488351232; omega), .inr ⟨gs[i], 0, rfl, fun j hj => ?_⟩⟩
      have hj1 : j < 1 := hj
      have : j = 0 := by omega
      subst this
      exact ⟨cell_of_row _ _ 0 _ 30 (0, 0) hgh.1, cell_of_row _ _ 1 _ 30 (0, 0) hgh.1, cell_of_row _ _ 2 _ 30 (0, 0) hgh.1⟩

theorem ord_ans {raw : List Int} {k : Nat} (hk : k ≤ 8) {x : Int} (h : Ans (ordP (atsK raw k)).tn (ordP (atsK raw k)).fn (1 + (ordP (atsK raw k)).tn + (ordP (atsK raw k)).fn) (allL (ordP (atsK raw k)).sn (ordP (atsK raw k)).tn (ordP (atsK raw k)).tl (ordP (atsK raw k)).fl) (allF (ordP (atsK raw k)).tn (ordP (atsK raw k)).sf (ordP (atsK raw k)).tf (ordP (atsK raw k)).ff) x) : x = 0 := by
  have e1 : (ordP (atsK raw k)).tn = k := by show (atsK raw k).length = k; rw [atsK_length]
  have e2 : (ordP (atsK raw k)).sn = 2 * k := by show 2 * (atsK raw k).length = 2 * k; rw [atsK_length]
  have e3 : (ordP (atsK raw k)).fn = 0 := rfl
  refine h.one ?_
  rw [e1, e2, e3]
  refine .inr (.inr (.inr (.inr ⟨hk, by omega, ?_, ?_, rfl⟩)))
  · intro i hi
    by_cases h0 : i = 0
    · subst h0
      have : allL (2 * k) k (ordP (atsK raw k)).tl (ordP (atsK raw k)).fl 0 = 2 * k := by
        unfold allL cat
        rw [if_pos (by omega), if_pos (by omega), if_neg (by omega)]
      rw [this]
      omega
    · have : i - 1 < k := by omega
      have h1 : ¬ i < 1 := by omega
      have h2 : i < 1 + k := by omega
      simp [allL, cat, h1, h2, ordP]
  · intro i j hi hj
    by_cases h0 : i = 0
    · subst h0
      have hl0 : allL (2 * k) k (ordP (atsK raw k)).tl (ordP (atsK raw k)).fl 0 = 2 * k := by
        unfold allL cat
        rw [if_pos (by omega), if_pos (by omega), if_neg (by omega)]
      have hj' : j < 2 * k := by rw [hl0] at hj; exact hj
      have : allF k (ordP (atsK raw k)).sf (ordP (atsK raw k)).tf (ordP (atsK raw k)).ff 0 = (ordP (atsK raw k)).sf := by
        unfold allF cat
        rw [if_pos (by omega), if_pos (by omega), if_neg (by omega)]
      rw [this]
      by_cases hm : j % 2 = 0
      · simp [ordP, hm, rt, rightB, fitsB, tabA, tabB]
      · have hh : j / 2 < k := by omega
        simp [ordP, hm, rt, rightB, fitsB, tabA, tabB]
        omega
    · have h1 : ¬ i < 1 := by omega
      have h2 : i < 1 + k := by omega
      simp [allF, cat, h1, h2, ordP, rt, rightB, fitsB, tabA, tabB]

theorem upC_csK (cl : List Int) (n : Nat) (hn : n ≤ 40) : upC 0 (csK cl n) := by
  have key : ∀ (m j : Nat), j + m ≤ 40 → upC (nowK cl j) ((List.range' j m).map fun i => nowK cl (i + 1)) := by
    intro m
    induction m with
    | zero => intro j _; trivial
    | succ m ih =>
      intro j hj
      rw [List.range'_succ, List.map_cons]
      have h1 := pickI_range (cl.getD j 0) 6 (by omega)
      have h2 := nowK_le cl (j + 1)
      refine ⟨by show nowK cl j ≤ nowK cl j + pickI (cl.getD j 0) 6; omega, by omega, ih (j + 1) (by omega)⟩
  have := key n 0 (by omega)
  unfold csK
  rw [List.range_eq_range']
  exact this
end Go.Proofs.YtfmbebofllgmoaaDoor
namespace Go.Proofs.YtfmbebofllgmoaaDoor
open Go.RowKit

/-- The times that are left: -1 for one that has come. -/
def atv (ats : List Int) (al : Nat → Bool) : List Int := (List.range ats.length).map fun k => if al k then oAt ats k else -1
def cnt (n : Nat) (al : Nat → Bool) : Nat := ((List.range n).filter al).length
theorem atv_length (ats : List Int) (al : Nat → Bool) : (atv ats al).length = ats.length := by simp [atv]
theorem atv_get (ats : List Int) (al : Nat → Bool) (k : Nat) (hk : k < ats.length) : (atv ats al).getD k 0 = if al k then oAt ats k else -1 := by simp [atv, List.getD, hk]
theorem atv_congr (ats : List Int) {al al' : Nat → Bool} (h : ∀ k, k < ats.length → al k = al' k) : atv ats al = atv ats al' := by
  unfold atv
  apply List.map_congr_left
  intro k hk
  rw [h k (List.mem_range.1 hk)]
theorem cnt_congr {n : Nat} {al al' : Nat → Bool} (h : ∀ k, k < n → al k = al' k) : cnt n al = cnt n al' := by
  unfold cnt
  rw [List.filter_congr]
  intro k hk
  exact h k (List.mem_range.1 hk)
theorem cnt_any (n : Nat) (al : Nat → Bool) : anyAl n al = decide (0 < cnt n al) := by
  unfold anyAl cnt
  rw [Bool.eq_iff_iff, List.any_eq_true, decide_eq_true_eq, List.length_pos_iff_exists_mem]
  constructor
  · rintro ⟨x, hx, h⟩; exact ⟨x, List.mem_filter.2 ⟨hx, h⟩⟩
  · rintro ⟨x, hx⟩; exact ⟨x, (List.mem_filter.1 hx).1, (List.mem_filter.1 hx).2⟩
theorem cnt_off (n k : Nat) (al : Nat → Bool) (hk : k < n) (ha : al k = true) : cnt n al = cnt n (fun j => al j && !decide (j = k)) + 1 := by
  unfold cnt
  induction n with
  | zero => omega
  | succ n ih =>
    rw [List.range_succ, List.filter_append, List.filter_append, List.length_append, List.length_append]
    by_cases e : k = n
    · subst e
      have h1 : (List.range k).filter al = (List.range k).filter (fun j => al j && !decide (j = k)) := by
        apply List.filter_congr
        intro j hj
        have : j ≠ k := by have := List.mem_range.1 hj; omega
        simp [this]
      rw [h1]
      simp [ha]
    · have := ih (by omega)
      rw [this]
      have hne : ¬ n = k := fun h => e h.symm
      cases hn : al n <;> simp [hn, hne] <;> omega

theorem ownI_set {w : World} {B g cap : Nat} {l : List Int} (h : OwnI w B (.slice (some ⟨g, 0, none⟩) l.length cap) l) (i : Nat) (hi : i < l.length) (z : Int) : OwnI (w.setCell ⟨g, i, none⟩ (.int .i64 z)) B (.slice (some ⟨g, 0, none⟩) l.length cap) (l.set i z) := by
  obtain ⟨g', cap', cur, hv, hB, hg, h1, h2, h3, hc⟩ := ownI_parts h (by omega)
  injection hv with e1 e2 e3
  injection e1 with e1
  injection e1 with e1 _ _
  subst e1 e3
  have hnew := setRow_heap w g cur (cur.setIfInBounds i (.int .i64 z)) 3 (0, 0) hg
  rw [← setCell_eq_setRow w g i cur 3 (0, 0) (.int .i64 z) hg] at hnew
  have := ownI_of (w := w.setCell ⟨g, i, none⟩ (.int .i64 z)) (B := B) (g := g) (cap := cap) (l := l.set i z) hnew (by simpa using h3) hB (by simpa using h1) h2 (fun j hj => by
    have hj' : j < l.length := by simpa using hj
    by_cases e : j = i
    · subst e
      rw [World.cell?_setCell_same' _ _ _ (by rw [hc j hj']; rfl)]
      simp [List.getD, hj']
    · rw [World.cell?_setCell_other _ _ _ _ (by intro he; injection he; omega), hc j hj']
      have : i ≠ j := fun h => e h.symm
      simp [List.getD, List.getElem?_set_ne this])
  rwa [List.length_set] at this

structure L3 (w8 : World) (B : Nat) (ats : List Int) (u : Value) (wr : World) (al : Nat → Bool) (vw : Value) (W : List O3) : Prop where
  fr : Fr (own u) w8 wr (fun k => own u k ∨ own vw k)
  at_ : OwnI wr B u (atv ats al)
  wn : wr.ownsRow w8.heap.size 42 3 vw W.length (flatE W)
  old : ∀ k, own u k → k < w8.heap.size

section
variable {w8 wr : World} {B : Nat} {ats : List Int} {u vw : Value} {al : Nat → Bool} {W : List O3}
theorem L3.new (h : L3 w8 B ats u wr al vw W) {k : Nat} (hk : own vw k) : w8.heap.size ≤ k ∧ k < wr.heap.size := World.ownsRow.lt h.wn k hk
theorem L3.keep (h : L3 w8 B ats u wr al vw W) {W' : World} (hf : Fr (fun _ => False) wr W' (fun _ => False)) : L3 w8 B ats u W' al vw W := by
  have e : ∀ k, k < wr.heap.size → W'.heap[k]? = wr.heap[k]? := fun k hk => hf.same k hk (fun h => h)
  refine ⟨⟨hf.os.trans h.fr.os, hf.tape.trans h.fr.tape, hf.output.trans h.fr.output, Nat.le_trans h.fr.size hf.size, fun k hk hn => (e k (Nat.lt_of_lt_of_le hk h.fr.size)).trans (h.fr.same k hk hn), h.fr.old⟩, ownsRow_of_block h.at_ (fun q hq => e q (World.ownsRow.lt h.at_ q hq).2), ownsRow_of_block h.wn (fun q hq => e q (h.new hq).2), h.old⟩
theorem L3.event (h : L3 w8 B ats u wr al vw W) {W' : World} {vw' : Value} {V : List O3} (hr : W'.ownsRow w8.heap.size 42 3 vw' V.length (flatE V)) (hf : Fr (own vw) wr W' (own vw')) : L3 w8 B ats u W' al vw' V := by
  have hv' : ∀ k, own vw' k → w8.heap.size ≤ k := fun k hk => (World.ownsRow.lt hr k hk).1
  refine ⟨⟨hf.os.trans h.fr.os, hf.tape.trans h.fr.tape, hf.output.trans h.fr.output, Nat.le_trans h.fr.size hf.size, fun k hk hn => (hf.same k (Nat.lt_of_lt_of_le hk h.fr.size) (fun e => by have := (h.new e).1; omega)).trans (h.fr.same k hk hn), fun k hk e => e.elim id (fun e => by have := hv' k e; omega)⟩,
    ownsRow_of_block h.at_ (fun q hq => hf.same q (World.ownsRow.lt h.at_ q hq).2 (fun e => by have := (h.new e).1; have := h.old q hq; omega)), hr, h.old⟩
theorem L3.kill {g cap : Nat} (h : L3 w8 B ats (.slice (some ⟨g, 0, none⟩) ats.length cap) wr al vw W) (i : Nat) (hi : i < ats.length) : L3 w8 B ats (.slice (some ⟨g, 0, none⟩) ats.length cap) (wr.setCell ⟨g, i, none⟩ (.int .i64 (-1))) (fun j => al j && !decide (j = i)) vw W := by
  have hgo : g < w8.heap.size := h.old g rfl
  have ha := h.at_
  have e0 : (.slice (some ⟨g, 0, none⟩) ats.length cap : Value) = .slice (some ⟨g, 0, none⟩) (atv ats al).length cap := by rw [atv_length]
  rw [e0] at ha
  have h1 := ownI_set ha i (by rw [atv_length]; exact hi) (-1)
  rw [← e0] at h1
  have e1 : (atv ats al).set i (-1) = atv ats (fun j => al j && !decide (j = i)) := by
    apply List.ext_getElem?
    intro j
    by_cases hj : j < ats.length
    · by_cases e : j = i
      · subst e
        simp [atv, hj]
      · have : i ≠ j := fun h => e h.symm
        rw [List.getElem?_set_ne this]
        simp [atv, hj, e]
    · rw [List.getElem?_eq_none (by simp [atv]; omega), List.getElem?_eq_none (by simp [atv]; omega)]
  rw [e1] at h1
  refine ⟨?_, h1, ownsRow_of_block h.wn (fun q hq => Below.heap_setCell _ _ _ _ (by rintro rfl; have := (h.new hq).1; omega)), h.old⟩
  exact h.fr.setCell _ _ (.inl rfl)
theorem L3.congr (h : L3 w8 B ats u wr al vw W) {al' : Nat → Bool} (e : ∀ k, k < ats.length → al k = al' k) : L3 w8 B ats u wr al' vw W := ⟨h.fr, atv_congr ats e ▸ h.at_, h.wn, h.old⟩
end
end Go.Proofs.YtfmbebofllgmoaaDoor
namespace Go.Proofs.YtfmbebofllgmoaaDoor
open Go.RowKit

def dueP (ats : List Int) (al : Nat → Bool) (t : Nat) : List Nat := (List.range t).flatMap fun (t : Nat) => (List.range ats.length).filter fun k => al k && decide (oAt ats k = (t : Int))
def dueQ (ats : List Int) (al : Nat → Bool) (t kk : Nat) : List Nat := (List.range kk).filter fun k => al k && decide (oAt ats k = (t : Int))
def alT (ats : List Int) (al : Nat → Bool) (t : Nat) (j : Nat) : Bool := al j && !decide (oAt ats j < (t : Int))
def alQ (ats : List Int) (al : Nat → Bool) (t kk : Nat) (j : Nat) : Bool := alT ats al t j && !(decide (j < kk) && decide (oAt ats j = (t : Int)))
theorem dueP_succ (ats : List Int) (al : Nat → Bool) (t : Nat) : dueP ats al (t + 1) = dueP ats al t ++ dueQ ats al t ats.length := by
  unfold dueP dueQ
  rw [List.range_succ, List.flatMap_append]
  simp
theorem dueQ_succ (ats : List Int) (al : Nat → Bool) (t kk : Nat) : dueQ ats al t (kk + 1) = dueQ ats al t kk ++ (if al kk && decide (oAt ats kk = (t : Int)) then [kk] else []) := by
  unfold dueQ
  rw [List.range_succ, List.filter_append]
  congr 1
  simp [List.filter_cons]
theorem evL_append (a b : List Nat) : evL (a ++ b) = evL a ++ evL b := by simp [evL]
theorem evL_length (a : List Nat) : (evL a).length = 2 * a.length := by
  induction a with
  | nil => rfl
  | cons x r ih => rw [show evL (x :: r) = [(1, (x : Int), 0), (3, 1, 0)] ++ evL r from rfl, List.length_append, ih]; simp; omega
theorem dueP_dueL (ats : List Int) (al : Nat → Bool) (c : Int) : dueP ats al (c.toNat + 1) = dueL ats al c := rfl
theorem alT_zero (ats : List Int) (hat : ∀ i, 0 ≤ oAt ats i) (al : Nat → Bool) (j : Nat) : alT ats al 0 j = al j := by
  have := hat j
  simp [alT]
  intro _
  exact this
theorem alT_off (ats : List Int) (al : Nat → Bool) (c : Int) (hc : 0 ≤ c) (j : Nat) : alT ats al (c.toNat + 1) j = offL ats al c j := by
  unfold alT offL
  have : (oAt ats j < ((c.toNat + 1 : Nat) : Int)) ↔ (oAt ats j ≤ c) := by omega
  simp only [this]
theorem alQ_zero (ats : List Int) (al : Nat → Bool) (t j : Nat) : alQ ats al t 0 j = alT ats al t j := by simp [alQ]
theorem alQ_all (ats : List Int) (al : Nat → Bool) (t j : Nat) (hj : j < ats.length) : alQ ats al t ats.length j = alT ats al (t + 1) j := by
  unfold alQ alT
  by_cases h1 : oAt ats j < (t : Int)
  · simp [h1]
    intro _
    omega
  · by_cases h2 : oAt ats j = (t : Int)
    · simp [hj, h2]
      intro _
      omega
    · simp [h1, h2]
      intro _
      omega
/-- Has this one come? -/
theorem alQ_hit (ats : List Int) (hat : ∀ i, 0 ≤ oAt ats i) (al : Nat → Bool) (t kk : Nat) : ((if alQ ats al t kk kk then oAt ats kk else -1) == (t : Int)) = (al kk && decide (oAt ats kk = (t : Int))) := by
  unfold alQ alT
  have := hat kk
  by_cases h2 : oAt ats kk = (t : Int)
  · have h1 : ¬ oAt ats kk < (t : Int) := by omega
    cases al kk
    · simp
    · simp [h2]
  · have hne : ¬ ((-1 : Int) = (t : Int)) := by omega
    by_cases hb : (al kk && !decide (oAt ats kk < (t : Int))) = true
    · simp [hb, h2]
    · simp [hb, h2, hne]
theorem alQ_miss (ats : List Int) (al : Nat → Bool) (t kk j : Nat) (h : (al kk && decide (oAt ats kk = (t : Int))) = false) : alQ ats al t (kk + 1) j = alQ ats al t kk j := by
  unfold alQ alT
  by_cases e : j = kk
  · subst e
    cases ha : al j
    · simp
    · simp only [ha, Bool.true_and, decide_eq_false_iff_not] at h
      simp [h]
  · have : (j < kk + 1) ↔ (j < kk) := by omega
    simp only [this]
theorem alQ_off (ats : List Int) (al : Nat → Bool) (t kk j : Nat) (h : oAt ats kk = (t : Int)) : (alQ ats al t kk j && !decide (j = kk)) = alQ ats al t (kk + 1) j := by
  unfold alQ
  by_cases e : j = kk
  · subst e
    simp [h]
  · have : (j < kk + 1) ↔ (j < kk) := by omega
    simp [this, e]
theorem alQ_true (ats : List Int) (al : Nat → Bool) (t kk : Nat) (h : (al kk && decide (oAt ats kk = (t : Int))) = true) : alQ ats al t kk kk = true ∧ oAt ats kk = (t : Int) := by
  simp only [Bool.and_eq_true, decide_eq_true_eq] at h
  unfold alQ alT
  have h1 : ¬ oAt ats kk < (t : Int) := by omega
  simp [h.1, h1]
  exact h.2
end Go.Proofs.YtfmbebofllgmoaaDoor
