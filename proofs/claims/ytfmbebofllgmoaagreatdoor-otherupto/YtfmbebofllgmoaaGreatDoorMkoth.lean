/-
  PROVED HERE: a world that is made of inputs: how it lies, how it grows; what a run by other handlers comes to.
-/
import Derived.Test.YtfmbebofllgmoaaGreatDoorMkept
import Derived.Test.YtfmbebofllgmoaaGreatDoorMsimx
namespace Go.Proofs.YtfmbebofllgmoaaGreatDoor
open Go.RowKit

/-- The type of a world's list's elements. -/
def eO (j : Nat) : Nat := if j = 1 then 26 else 3
def updO {α : Type} (f : Nat → α) (j : Nat) (v : α) : Nat → α := fun i => if i = j then v else f i
/-- A world that is being made: its struct and its four lists. -/
structure O1 (Wb wr : World) (F : Nat → Value) (L : Nat → List Value) : Prop where
  fr : Fr (fun _ => False) Wb wr (fun _ => False)
  vb : wr.heap[Wb.heap.size]? = some (.cells #[F 0, F 1, F 2, F 3] 29)
  row : ∀ j, j < 4 → wr.ownsRow Wb.heap.size (eO j) 1 (F j) (L j).length (L j)
  dis : ∀ i j, i < 4 → j < 4 → i ≠ j → ∀ q, own (F i) q → ¬ own (F j) q
theorem eO_ne (j : Nat) : eO j ≠ 29 := by unfold eO; split <;> omega
section
variable {Wb wr : World} {F : Nat → Value} {L : Nat → List Value}
theorem O1.notvb (h : O1 Wb wr F L) {j : Nat} (hj : j < 4) : ¬ own (F j) Wb.heap.size := fun hq => by
  obtain ⟨c, hc⟩ := row_d (h.row j hj) hq
  rw [h.vb] at hc
  injection hc with hc
  injection hc with _ hc
  exact eO_ne j hc.symm
theorem O1.keep (h : O1 Wb wr F L) {W : World} (hf : Fr (fun _ => False) wr W (fun _ => False)) : O1 Wb W F L :=
  ⟨h.fr.trans hf, (hf.same _ (Array.getElem?_eq_some_iff.1 h.vb).1 (fun h => h)).trans h.vb, fun j hj => ownsRow_of_block (h.row j hj) (fun q hq => hf.same q (World.ownsRow.lt (h.row j hj) q hq).2 (fun h => h)), h.dis⟩
theorem O1.pb (h : O1 Wb wr F L) {j : Nat} (hj : j < 4) {W : World} {v' : Value} (hf : Fr (own (F j)) wr W (own v')) : W.heap[Wb.heap.size]? = some (.cells #[F 0, F 1, F 2, F 3] 29) :=
  (hf.same _ (Array.getElem?_eq_some_iff.1 h.vb).1 (h.notvb hj)).trans h.vb
theorem set4 (F : Nat → Value) (j : Nat) (v : Value) (hj : j < 4) : #[F 0, F 1, F 2, F 3].setIfInBounds j v = #[updO F j v 0, updO F j v 1, updO F j v 2, updO F j v 3] := by
  have : j = 0 ∨ j = 1 ∨ j = 2 ∨ j = 3 := by omega
  rcases this with rfl | rfl | rfl | rfl <;> rfl
theorem O1.grow (h : O1 Wb wr F L) {j : Nat} (hj : j < 4) {W : World} {v' u : Value} (hr : W.ownsRow Wb.heap.size (eO j) 1 v' ((L j).length + 1) (L j ++ [u])) (hf : Fr (own (F j)) wr W (own v')) :
    O1 Wb (W.setCell ⟨Wb.heap.size, j, none⟩ v') (updO F j v') (updO L j (L j ++ [u])) := by
  have pbW := h.pb hj hf
  have nv : ∀ {e size n v xs}, W.ownsRow Wb.heap.size e size v n xs → e ≠ 29 → ∀ q, own v q → (W.setCell ⟨Wb.heap.size, j, none⟩ v').heap[q]? = W.heap[q]? := fun hr he q hq => by
    refine Below.heap_setCell _ _ _ _ (fun e => ?_)
    obtain ⟨c, hc⟩ := row_d hr hq
    have e' : q = Wb.heap.size := e
    rw [e', pbW] at hc
    injection hc with hc
    injection hc with _ hc
    exact he hc.symm
  have oth : ∀ i, i < 4 → i ≠ j → W.ownsRow Wb.heap.size (eO i) 1 (F i) (L i).length (L i) := fun i hi hij =>
    ownsRow_of_block (h.row i hi) (fun q hq => hf.same q (World.ownsRow.lt (h.row i hi) q hq).2 (h.dis i j hi hj hij q hq))
  refine ⟨(h.fr.fresh hf (fun k hk => (World.ownsRow.lt (h.row j hj) k hk).1)).setCell _ _ (.inr (Nat.le_refl _)), ?_, fun i hi => ?_, fun i k hi hk hik q hq hq' => ?_⟩
  · have h0 := setRow_heap W Wb.heap.size _ (#[F 0, F 1, F 2, F 3].setIfInBounds j v') 29 (0, 0) pbW
    rw [← setCell_eq_setRow W Wb.heap.size j _ 29 (0, 0) v' pbW, set4 F j v' hj] at h0
    exact h0
  · by_cases hij : i = j
    · subst hij
      simp only [updO, if_pos]
      rw [List.length_append]
      exact ownsRow_of_block hr (nv hr (eO_ne i))
    · simp only [updO, if_neg hij]
      exact ownsRow_of_block (oth i hi hij) (nv (oth i hi hij) (eO_ne i))
  · have low : ∀ i, i < 4 → i ≠ j → ∀ q, own (F i) q → ¬ own v' q := fun i hi hij q hq hv => by
      have hlt := (World.ownsRow.lt (h.row i hi) q hq).2
      exact h.dis i j hi hj hij q hq (hf.old q hlt hv)
    by_cases hij : i = j
    · have hkj : k ≠ j := fun e => hik (hij.trans e.symm)
      simp only [updO, if_pos hij] at hq
      simp only [updO, if_neg hkj] at hq'
      exact low k hk hkj q hq' hq
    · simp only [updO, if_neg hij] at hq
      by_cases hkj : k = j
      · simp only [updO, if_pos hkj] at hq'
        exact low i hi hij q hq hq'
      · simp only [updO, if_neg hkj] at hq'
        exact h.dis i k hi hk hik q hq hq'
end
/-- The four lists that inputs make. -/
def LO (H : List (Inp × Value)) (j : Nat) : List Value := (H.filter fun p => p.1.1 == j + 1).map fun p => if j = 1 then p.2 else .int .i64 (p.1.2.2.1 : Nat)
theorem LO_nil (j : Nat) : LO [] j = [] := rfl
theorem LO_snoc (H : List (Inp × Value)) (p : Inp × Value) (j : Nat) (hk : p.1.1 = j + 1) : LO (H ++ [p]) = updO (LO H) j (LO H j ++ [if j = 1 then p.2 else .int .i64 (p.1.2.2.1 : Nat)]) := by
  funext i
  unfold updO LO
  rw [List.filter_append, List.map_append]
  by_cases hij : i = j
  · subst hij
    rw [if_pos rfl, List.filter_cons_of_pos (by simp [hk])]
    rfl
  · rw [if_neg hij, List.filter_cons_of_neg (by simp [hk]; omega)]
    simp
theorem LO_other (H : List (Inp × Value)) (p : Inp × Value) (hk : p.1.1 = 5) : ∀ j, j < 4 → LO (H ++ [p]) j = LO H j := by
  intro j hj
  unfold LO
  rw [List.filter_append, List.filter_cons_of_neg (by simp [hk]; omega)]
  simp
theorem O1.congr {Wb wr : World} {F : Nat → Value} {L L' : Nat → List Value} (h : O1 Wb wr F L) (e : ∀ j, j < 4 → L' j = L j) : O1 Wb wr F L' :=
  ⟨h.fr, h.vb, fun j hj => by rw [e j hj]; exact h.row j hj, h.dis⟩
theorem LO_len (H : List (Inp × Value)) (j : Nat) : (LO H j).length ≤ H.length := by
  unfold LO; rw [List.length_map]; exact List.length_filter_le _ _
/-- The batches among inputs. -/
def btO (H : List (Inp × Value)) : List Br := (H.filter fun p => p.1.1 == 2).map fun p => (p.2, zs p.1.2.2.2)
theorem LO_bt (H : List (Inp × Value)) : LO H 1 = (btO H).map (·.1) := by unfold LO btO; rw [List.map_map]; rfl
theorem filt_map (H : List (Inp × Value)) (k : Nat) : (H.map (·.1)).filter (fun i => i.1 == k) = (H.filter fun p => p.1.1 == k).map (·.1) := by
  rw [List.filter_map]; rfl
theorem LO_ints (H : List (Inp × Value)) (j : Nat) (hj : j ≠ 1) (l : List Int) (hl : l = (((H.map (·.1)).filter fun i => i.1 == j + 1).map fun i => (i.2.2.1 : Int))) : LO H j = l.map fun z => .int .i64 z := by
  subst hl
  unfold LO
  rw [filt_map, List.map_map, List.map_map]
  exact List.map_congr_left (fun p _ => by rw [if_neg hj]; rfl)
theorem worldOf_O (H : List (Inp × Value)) : WorldOf (H.map (·.1)) ⟨clocksOf (H.map (·.1)), btO H, picksOf (H.map (·.1)), lotsOf (H.map (·.1)), headS⟩ :=
  ⟨rfl, by
    show (btO H).map (·.2) = filesOf _
    unfold filesOf btO
    rw [filt_map, List.map_map, List.map_map]
    rfl, rfl, rfl⟩
theorem endR_or (o : Int) (l : List Inp) : endR o l = o ∨ endR o l = 6 := by
  unfold endR
  split
  · exact .inl rfl
  · split
    · exact .inl rfl
    · split
      · exact .inl rfl
      · exact .inr rfl
/-- What a run by other handlers comes to. -/
theorem other_facts {q : Pg} (hq : PgOk q) (f : Int) (lg : ByteArray) (hy : (readL (bs lg)).1.length ≤ 50000000) : ∃ n : Nat, n ≤ (readL (bs lg)).1.length ∧ (repS q f (rdV lg)).heard = n ∧ ∀ (H : List (Inp × Value)), H.map (·.1) = (readL (bs lg)).1.take n →
    ∃ g : PS, g = (recM q f (clocksOf (H.map (·.1))) (btO H) (picksOf (H.map (·.1))) (lotsOf (H.map (·.1)))).1 ∧ g.trace = (repS q f (rdV lg)).trace ∧ g.reg = (repS q f (rdV lg)).reg ∧ g.clock = (repS q f (rdV lg)).clock ∧ g.heard = (repS q f (rdV lg)).heard ∧ ((repS q f (rdV lg)).fin = 6 ∨ (repS q f (rdV lg)).fin = g.fin) := by
  obtain ⟨n, h1, h2, h3⟩ := rep_other hq f (rdV lg) hy
  refine ⟨n, h1, h2, fun H hH => ⟨_, rfl, ?_⟩⟩
  have hw := worldOf_O H
  rw [hH] at hw
  have h4 := h3 _ _ _ _ hw
  rw [← hH] at h4
  have hend := endR_or (repM q f (rdV lg)).1.fin (repM q f (rdV lg)).2.1
  rcases h4 with h4 | ⟨h5, h4⟩
  · rw [h4]
    refine ⟨rfl, rfl, rfl, rfl, ?_⟩
    rcases hend with e | e
    · exact .inr e
    · exact .inl e
  · rw [h4]
    refine ⟨rfl, rfl, rfl, rfl, .inl ?_⟩
    rcases hend with e | e
    · exact e.trans h5
    · exact e
/-- A list of one's own grows (longer ones). -/
theorem step_growb {ops : Array Oper} {o : Oper} {a : Act} {K : Act → World → Prop} {Q : Exit → Act → World → Prop} {E' : Prop} {w : World} {B t e size bytes : Nat} (E : Elem t e size bytes) (hs0 : 0 < size) (hs1 : bytes ≤ 100) {v : Value} {n m : Nat} {xs news : List Value} (hgd : o.guard = none) (sv xv : Operand)
    (ho : o.op = .call { callee := .builtin .append, args := #[sv, xv], argTypes := #[t, t] }) {ad : Addr} {cap : Nat} (hs : a.eval sv = v) (hx : a.eval xv = .slice (some ad) m cap) (hrow : w.ownsRow B e size v n xs) (hl : news.length = m * size)
    (hc : ∀ j u, news[j]? = some u → w.cell? (ad.add j) = some u) (h1 : ∀ u ∈ news, u.oneCell' = true) (hm : 0 < m) (hn : n + m ≤ 10000000) (hB : B ≤ w.heap.size)
    (h : ∀ v' w', w'.ownsRow B e size v' (n + m) (xs ++ news) → Fr (own v) w w' (own v') → (∃ a c, v' = .slice a (n + m) c) → K (a.put o.dst v') w') : if Region.wanted o (yielded ops a.tmps) = true then Oper.wp Tryz.prog o a w K Q else E' := by
  obtain ⟨i, z, hi, hz, hsz, hby, hzc⟩ := E.i
  have hmx : n + m ≤ maxLen := by simp only [maxLen]; omega
  have hbb : (n + m) * bytes ≤ 140737488355328 := Nat.le_trans (Nat.mul_le_mul hn hs1) (by omega)
  refine step_append_lies _ hgd sv xv t ho B e i z size bytes E.u hi hz hsz hby hzc hs0 v n xs hs hrow ad m cap news hx hl hc h1 hm hmx hbb hB w.heap.size rfl ?_
  intro g cp w' h1 h2 h3 h4
  exact h _ w' h1 (grow_fr h2 h3) ⟨_, _, rfl⟩
theorem step_growb_at {ops : Array Oper} {o : Oper} {a : Act} {K : Act → World → Prop} {Q : Exit → Act → World → Prop} {E' : Prop} {w : World} {B t e size bytes d : Nat} (hd : o.dst = some d) (E : Elem t e size bytes) (hs0 : 0 < size) (hs1 : bytes ≤ 100) {v : Value} {n m : Nat} {xs news : List Value} (hgd : o.guard = none) (sv xv : Operand)
    (ho : o.op = .call { callee := .builtin .append, args := #[sv, xv], argTypes := #[t, t] }) {ad : Addr} {cap : Nat} (hs : a.eval sv = v) (hx : a.eval xv = .slice (some ad) m cap) (hrow : w.ownsRow B e size v n xs) (hl : news.length = m * size)
    (hc : ∀ j u, news[j]? = some u → w.cell? (ad.add j) = some u) (h1 : ∀ u ∈ news, u.oneCell' = true) (hm : 0 < m) (hn : n + m ≤ 10000000) (hB : B ≤ w.heap.size)
    (h : ∀ v' w', w'.ownsRow B e size v' (n + m) (xs ++ news) → Fr (own v) w w' (own v') → (∃ a c, v' = .slice a (n + m) c) → K ⟨a.tmps.setIfInBounds d v', a.defers⟩ w') : if Region.wanted o (yielded ops a.tmps) = true then Oper.wp Tryz.prog o a w K Q else E' :=
  step_growb E hs0 hs1 hgd sv xv ho hs hx hrow hl hc h1 hm hn hB (fun v' w' p1 p2 p3 => by rw [hd]; exact h v' w' p1 p2 p3)
theorem replayQ {w0 W : World} {p : Pg} {fu : Int} {p1 p2 p3 : Value} (pg : PgAt w0 (pvOf p1 p2 p3 undef) p) (ok : PgOk p) (hf : Fr (fun _ => False) w0 W (fun _ => False)) (htab : TabIn W) (t : ByteArray) (hs : t.size ≤ 1000000000) (hc : (readL (bs t)).1.length ≤ 2000000) (h0 : (readL (bs t)).2.1 ≠ 0) :
    Calls Tryz.prog 15 #[.agg #[p1, p2, p3], .string t, .int .i64 fu] W fun e w' => Fr (fun _ => False) W w' (fun _ => False) ∧ ∃ a c, ∃ r : PS, r = repS p fu (rdV t) ∧ e = .returned (.tuple #[.slice a r.trace.length c, .agg #[.int .i64 r.fin, .int .i64 (r.reg 0), .int .i64 (r.reg 1), .int .i64 (r.reg 2), .int .i64 (r.reg 3), .int .i64 r.clock, .int .i64 r.heard], .int .i64 0]) ∧
          w'.ownsRow W.heap.size 72 3 (.slice a r.trace.length c) r.trace.length (flatE r.trace) := by
  refine (replay_any (w := W) (w0 := w0) (hf.below (B := w0.heap.size) (fun k hk => hk.elim) (Nat.le_refl _)) htab pg fu t hs hc).mono ?_
  rintro e w' ⟨hf, x, hx, h1 | ⟨_, h1, _⟩ | ⟨_, _, vt', he, hr⟩⟩
  · exact absurd (hx.one (ans_of_ok ok)) h1.1
  · exact absurd h1 h0
  · obtain ⟨a, c, e'⟩ := row_shape hr
    subst e'
    exact ⟨hf, a, c, _, rfl, he, hr⟩
end Go.Proofs.YtfmbebofllgmoaaGreatDoor
