/-
  PROVED HERE: lists of one unit over and over: what an append to an own one leaves. keepInts writes its marks and keeps the Book. writing units over an own list. keepInputs writes its marks and keeps the Book. the document's reader: bodies of clocks, of ends, of no kind. the document's reader: bodies of batches. the document's reader: bodies of picks.
-/
import Derived.Test.YtfmbebofllgmoaaGreatDoorProg
import Derived.WalkKit
import Derived.WalkSpells
import Derived.WalkLawsBesides
import Derived.Deep.QuietTactic
import Derived.BigQuiet
import Derived.Deep.RegionHeld3
import Derived.Deep.AppendLies
import Derived.Laws.EntriesVeiled
import Derived.Deep.DrawnRows
import Derived.BigRegion
import Derived.Deep.LoopGhost
import Derived.Deep.RegionLaw
import Derived.Lib.SliceRun
import Derived.Laws.BytesString
import Derived.ArgAppend
import Derived.Laws.BitsAllLaws
import Derived.Deep.MidRow
import Derived.Shelf.SlSortCmp.SmallK
import Derived.Shelf.SlicesG.Cmp
import Derived.Shelf.Small.Bits
import Derived.Laws.StructEq
import Derived.Deep.DeepCutAuto
import Derived.Conc.LoneCalls
import Derived.Calls
import Derived.Tactics
import Derived.KernelRfl
import Derived.Laws.Rows
import Derived.Lib.SlBytesConst
import Derived.RangeFuncOwn
import Derived.Laws.IdiomStrings
import Derived.RangeFuncNested
import Derived.RangeFuncBound
import Derived.RangeFuncCalls
import Derived.RangeFuncLeaves
import Derived.Shelf.RegionOpen
import Derived.OwnWalkIn
import Derived.TacticsInMore
import Derived.Maps.OwnIn
import Derived.Maps.AppendAt
import Derived.LoopNIn
import Derived.LoopIn
import Derived.ChangeKeysEq
import Derived.Deep.DeepAppendRoom
import Derived.Test.YtfmbebofllgmoaaGreatDoorSreadsb
namespace Go.Proofs.YtfmbebofllgmoaaGreatDoor
open Go.RowKit

/-- A list of one unit, over and over. -/
def FullU (us : List Value) (w : World) (v : Value) : Prop := ∃ a n c, v = .slice a n c ∧ n ≤ 1000000000 ∧ (n = 0 ∨ ∃ q off, a = some ⟨q, off, none⟩ ∧ ∀ i, i < n → ∀ j u, us[j]? = some u → w.cell? ⟨q, off + i * us.length + j, none⟩ = some u)
def reps (n : Nat) (us : List Value) : List Value := (List.replicate n us).flatten
theorem reps_succ (n : Nat) (us : List Value) : reps (n + 1) us = us ++ reps n us := by unfold reps; rw [List.replicate_succ, List.flatten_cons]
theorem reps_length (n : Nat) (us : List Value) : (reps n us).length = n * us.length := by
  induction n with
  | zero => simp [reps]
  | succ n ih => rw [reps_succ, List.length_append, ih, Nat.succ_mul]; omega
theorem reps_append (n k : Nat) (us : List Value) : reps n us ++ reps k us = reps (n + k) us := by
  unfold reps; rw [← List.flatten_append, List.replicate_append_replicate]
theorem reps_get (us : List Value) {j : Nat} {u : Value} (hj : us[j]? = some u) : ∀ (n i : Nat), i < n → (reps n us)[i * us.length + j]? = some u
  | 0, i, h => by omega
  | n + 1, 0, _ => by
    rw [reps_succ, Nat.zero_mul, Nat.zero_add, List.getElem?_append_left (List.getElem?_eq_some_iff.1 hj).1]
    exact hj
  | n + 1, i + 1, h => by
    rw [reps_succ, List.getElem?_append_right (by rw [Nat.succ_mul]; omega), show (i + 1) * us.length + j - us.length = i * us.length + j by rw [Nat.succ_mul]; omega]
    exact reps_get us hj n i (by omega)
section
variable {w W : World} {v : Value} {us : List Value} {K : Nat → Prop}
theorem FullU.keep (h : FullU us w v) (hl : LiesIn v K) (hk : ∀ q, K q → W.heap[q]? = w.heap[q]?) : FullU us W v := by
  obtain ⟨a, n, c, rfl, hn, hc⟩ := h
  refine ⟨a, n, c, rfl, hn, ?_⟩
  rcases Nat.eq_zero_or_pos n with h0 | h0
  · exact .inl h0
  rcases hc with h1 | ⟨q, off, rfl, hcell⟩
  · omega
  have hq := hk q (hl q off n c rfl h0)
  exact .inr ⟨q, off, rfl, fun i hi j u hj => by rw [cellOf_heap hq]; exact hcell i hi j u hj⟩
theorem FullU.row {B e n : Nat} (_hus : 0 < us.length) (h : w.ownsRow B e us.length v n (reps n us)) (hn : n ≤ 1000000000) : FullU us w v := by
  rcases Nat.eq_zero_or_pos n with h0 | h0
  · obtain ⟨a, c, hv⟩ := row_shape h
    exact ⟨a, n, c, hv, hn, .inl h0⟩
  · obtain ⟨g, c, hv, _, _, hc⟩ := row_cell h h0
    exact ⟨_, n, c, hv, hn, .inr ⟨g, 0, rfl, fun i hi j u hj => by rw [Nat.zero_add]; exact hc _ _ (reps_get us hj n i hi)⟩⟩
theorem FullU.toN {m : Int} (h : FullU [.int .i64 0, .int .i64 0, .int .i64 m, .slice none 0 0] w v) : FullN w v m := by
  obtain ⟨a, n, c, hv, hn, hc⟩ := h
  exact ⟨a, n, c, hv, hn, hc.imp id fun ⟨q, off, e, hcell⟩ => ⟨q, off, e, fun i hi => ⟨hcell i hi 0 _ rfl, hcell i hi 1 _ rfl, hcell i hi 2 _ rfl, hcell i hi 3 _ rfl⟩⟩⟩
end
/-- A list of units that was made of an own list: in its block, or in a block of its own. -/
def MadeU (us : List Value) (e : Nat) (w : World) (lv : Value) (n : Nat) (u : Value) (k : Nat) : Prop :=
  FullU us w u ∧ ((∃ g cp, lv = .slice (some ⟨g, 0, none⟩) n cp ∧ u = .slice (some ⟨g, 0, none⟩) (n + k) cp) ∨ (∀ q, own u q → ¬ own lv q ∧ ∃ cur, w.heap[q]? = some (.cells cur e (0, 0))))
section
variable {us : List Value} {e : Nat}
theorem MadeU.step {w w' : World} {B : Nat} {lv u v' : Value} {n k j : Nat} (_hus : 0 < us.length) (h : MadeU us e w lv n u k) (hk : k ≤ j) (hn : n + j ≤ 1000000000) (hr : w'.ownsRow B e us.length v' (n + j) (reps (n + j) us))
    (hd : (∃ g cp, lv = .slice (some ⟨g, 0, none⟩) n cp ∧ v' = .slice (some ⟨g, 0, none⟩) (n + j) cp ∧ n + j ≤ cp ∧ w.grownBy w' (some g)) ∨ (w.grownBy w' none ∧ ∀ q, own v' q → w.heap.size ≤ q)) : MadeU us e w' lv n u k := by
  obtain ⟨hf, hp⟩ := h
  rcases hd with ⟨g, cp, hlv, hv', hroom, hg⟩ | ⟨hg, _⟩
  · rcases hp with ⟨g2, cp2, hlv2, hu⟩ | hp
    · rw [hlv] at hlv2
      cases hlv2
      refine ⟨?_, .inl ⟨g, cp, hlv, hu⟩⟩
      subst hv'
      rcases Nat.eq_zero_or_pos (n + j) with h0 | h0
      · exact ⟨_, _, _, hu, by omega, .inl (by omega)⟩
      obtain ⟨g3, c3, hv3, _, _, hc3⟩ := row_cell hr h0
      cases hv3
      exact ⟨some ⟨g, 0, none⟩, n + k, cp, hu, by omega, .inr ⟨g, 0, rfl, fun i hi j' u' hj' => by rw [Nat.zero_add]; exact hc3 _ _ (reps_get us hj' (n + j) i (by omega))⟩⟩
    · have hk' : ∀ q, own u q → w'.heap[q]? = w.heap[q]? := fun q hq => hg.block q (by obtain ⟨cur, hcur⟩ := (hp q hq).2; exact (Array.getElem?_eq_some_iff.1 hcur).1) (fun e => (hp q hq).1 (by rw [hlv]; simp only [own, Value.ownBlock]; exact e.symm))
      exact ⟨hf.keep own_lies hk', .inr (fun q hq => ⟨(hp q hq).1, by obtain ⟨cur, hcur⟩ := (hp q hq).2; exact ⟨cur, (hk' q hq).trans hcur⟩⟩)⟩
  · have hall : ∀ q, q < w.heap.size → w'.heap[q]? = w.heap[q]? := fun q hq => hg.block q hq (by simp)
    refine ⟨?_, hp.imp id (fun hp q hq => ⟨(hp q hq).1, by obtain ⟨cur, hcur⟩ := (hp q hq).2; exact ⟨cur, (hall q (Array.getElem?_eq_some_iff.1 hcur).1).trans hcur⟩⟩)⟩
    obtain ⟨a, nn, c, hv, hnn, hc⟩ := hf
    exact ⟨a, nn, c, hv, hnn, hc.imp id fun ⟨q, off, e, hcell⟩ => ⟨q, off, e, fun i hi j' u' hj' => by rw [cellOf_heap (hall q (World.block_lt_of_cell? w _ (hcell i hi j' u' hj')))]; exact hcell i hi j' u' hj'⟩⟩
theorem MadeU.store {w : World} {lv u v : Value} {n k X j : Nat} {cX : Array Value} {t : Nat} (h : MadeU us e w lv n u k) (hX : w.heap[X]? = some (.cells cX t (0, 0))) (he : t ≠ e) (hlv : ¬ own lv X) : MadeU us e (w.setCell ⟨X, j, none⟩ v) lv n u k := by
  obtain ⟨hf, hp⟩ := h
  have hk : ∀ q, q ≠ X → (w.setCell ⟨X, j, none⟩ v).heap[q]? = w.heap[q]? := fun q hq => Below.heap_setCell _ _ _ _ hq
  rcases hp with ⟨g, cp, hl, hu⟩ | hp
  · refine ⟨hf.keep (K := fun q => q = g) (fun q off n' c hv _ => by rw [hu] at hv; cases hv; rfl) (fun q hq => hk q (fun e => hlv (by rw [hl, ← e, hq]; rfl))), .inl ⟨g, cp, hl, hu⟩⟩
  · have hne : ∀ q, own u q → q ≠ X := fun q hq e' => by
      obtain ⟨cur, hcur⟩ := (hp q hq).2
      rw [e'] at hcur
      exact he (ty_one hX hcur)
    exact ⟨hf.keep own_lies (fun q hq => hk q (hne q hq)), .inr (fun q hq => ⟨(hp q hq).1, by obtain ⟨cur, hcur⟩ := (hp q hq).2; exact ⟨cur, (hk q (hne q hq)).trans hcur⟩⟩)⟩
theorem MadeU.fr {w W : World} {lv u : Value} {n k : Nat} (h : MadeU us e w lv n u k) (hf : Fr (fun _ => False) w W (fun _ => False)) : MadeU us e W lv n u k := by
  obtain ⟨⟨a, nn, c, hv, hnn, hc⟩, hp⟩ := h
  have hall : ∀ q, q < w.heap.size → W.heap[q]? = w.heap[q]? := fun q hq => hf.same q hq (fun h => h)
  exact ⟨⟨a, nn, c, hv, hnn, hc.imp id fun ⟨q, off, e, hcell⟩ => ⟨q, off, e, fun i hi j' u' hj' => by rw [cellOf_heap (hall q (World.block_lt_of_cell? w _ (hcell i hi j' u' hj')))]; exact hcell i hi j' u' hj'⟩⟩, hp.imp id fun hp q hq => ⟨(hp q hq).1, by obtain ⟨cur, hcur⟩ := (hp q hq).2; exact ⟨cur, (hall q (Array.getElem?_eq_some_iff.1 hcur).1).trans hcur⟩⟩⟩
theorem MadeU.ty {w : World} {lv u : Value} {B n k size m : Nat} {xs : List Value} (h : MadeU us e w lv n u k) (ho : w.ownsRow B e size lv m xs) {q : Nat} (hq : own u q) : ∃ cur, w.heap[q]? = some (.cells cur e (0, 0)) := by
  rcases h.2 with ⟨g, cp, hl, hu⟩ | hp
  · exact row_d ho (by rw [hl]; rw [hu] at hq; exact hq)
  · exact (hp q hq).2
/-- One append of units to an own list, and the store of what came of it into the entry's block. -/
theorem keep_oneU {U wa : World} {B X t : Nat} {lv va : Value} {n j k : Nat} {cX : Array Value} (hus : 0 < us.length) (hte : t ≠ e) (hn : n + j ≤ 1000000000) (ho : U.ownsRow B e us.length lv n (reps n us)) (hX : U.heap[X]? = some (.cells cX t (0, 0)))
    (ra : wa.ownsRow B e us.length va (n + j) (reps (n + j) us))
    (hd : (∃ g cp, lv = .slice (some ⟨g, 0, none⟩) n cp ∧ va = .slice (some ⟨g, 0, none⟩) (n + j) cp ∧ n + j ≤ cp ∧ U.grownBy wa (some g)) ∨ (U.grownBy wa none ∧ ∀ q, own va q → U.heap.size ≤ q)) :
    (wa.setCell ⟨X, k, none⟩ va).ownsRow B e us.length lv n (reps n us) ∧ (wa.setCell ⟨X, k, none⟩ va).heap[X]? = some (.cells (cX.setIfInBounds k va) t (0, 0)) ∧ MadeU us e (wa.setCell ⟨X, k, none⟩ va) lv n va j ∧ (∀ u i, i ≤ j → MadeU us e U lv n u i → MadeU us e (wa.setCell ⟨X, k, none⟩ va) lv n u i) ∧
      Fr (fun q => own lv q ∨ q = X) U (wa.setCell ⟨X, k, none⟩ va) (fun q => own lv q ∨ q = X) ∧ (∀ q, own va q → own lv q ∨ U.heap.size ≤ q) := by
  have hXl : ¬ own lv X := own_ty ho hX hte
  have old : ∀ q, q < U.heap.size → ¬ own lv q → wa.heap[q]? = U.heap[q]? := fun q hq hn => by
    rcases hd with ⟨g, cp, hl, _, _, hg⟩ | ⟨hg, _⟩
    · exact hg.block q hq (fun e => hn (by rw [hl]; simp only [own, Value.ownBlock]; exact e.symm))
    · exact hg.block q hq (by simp)
  have hXlt := (Array.getElem?_eq_some_iff.1 hX).1
  have hXa : wa.heap[X]? = some (.cells cX t (0, 0)) := (old X hXlt hXl).trans hX
  have hsz : U.heap.size ≤ wa.heap.size := by rcases hd with ⟨_, _, _, _, _, hg⟩ | ⟨hg, _⟩ <;> exact hg.size
  have hol : wa.ownsRow B e us.length lv n (reps n us) := by
    rcases hd with ⟨g, cp, hl, hv, hr, hg⟩ | ⟨hg, _⟩
    · subst hl hv
      rw [← reps_append] at ra
      exact row_prefix ra (reps_length n us)
    · exact ownsRow_of_block ho (fun q hq => hg.block q (World.ownsRow.lt ho q hq).2 (by simp))
  have hmade : MadeU us e wa lv n va j := by
    refine ⟨FullU.row hus ra hn, ?_⟩
    rcases hd with ⟨g, cp, hl, hv, _, _⟩ | ⟨_, hf⟩
    · exact .inl ⟨g, cp, hl, hv⟩
    · exact .inr (fun q hq => ⟨fun h => by have h1 := hf q hq; have h2 := (World.ownsRow.lt ho q h).2; omega, row_d ra hq⟩)
  refine ⟨ownsRow_of_block hol (fun q hq => Below.heap_setCell _ _ _ _ (fun e => hXl (by have e' : q = X := e; rw [← e']; exact hq))), setCell_row wa X k cX t va hXa, hmade.store hXa hte hXl, fun u i hi hu => (hu.step hus hi hn ra hd).store hXa hte hXl, ?_⟩
  have h3 : wa.os = U.os ∧ wa.tape = U.tape ∧ wa.output = U.output := by rcases hd with ⟨_, _, _, _, _, hg⟩ | ⟨hg, _⟩ <;> exact ⟨hg.os, hg.tape, hg.output⟩
  refine ⟨⟨h3.1, h3.2.1, h3.2.2, by simpa [World.setCell] using hsz, fun q hq hn => (Below.heap_setCell _ _ _ _ (fun e => hn (.inr e))).trans (old q hq (fun h => hn (.inl h))), fun _ _ h => h⟩, fun q hq => ?_⟩
  rcases hd with ⟨g, cp, hl, hv, _, _⟩ | ⟨_, hf⟩
  · left; rw [hl]; rw [hv] at hq; exact hq
  · exact .inr (hf q hq)
end
end Go.Proofs.YtfmbebofllgmoaaGreatDoor
namespace Go.Proofs.YtfmbebofllgmoaaGreatDoor
open Go.RowKit
attribute [local go_sem ↓] Go.wp_at_zero Go.wp_at_succ

/-- A row of one's own, one cell stored. -/
theorem ownI_set {w : World} {B : Nat} {a : Option Addr} {c : Nat} {l : List Int} (h : OwnI w B (.slice a l.length c) l) (j : Nat) (hj : j < l.length) (z : Int) : ∃ g, a = some ⟨g, 0, none⟩ ∧ g < w.heap.size ∧ w.cell? ⟨g, j, none⟩ = some (.int .i64 (l.getD j 0)) ∧ w.frozen? ⟨g, j, none⟩ = false ∧ OwnI (w.setCell ⟨g, j, none⟩ (.int .i64 z)) B (.slice a l.length c) (l.set j z) := by
  obtain ⟨h0, h1⟩ := h
  rcases h1 with ⟨hv, h2⟩ | ⟨g, cap, cur, hv, hB, hg, hc1, hc2, hc3, hc4⟩
  · omega
  · cases hv
    have hcell := cell_of_row w g j cur 3 (0, 0) hg
    have hlt : j < cur.size := by rw [hc3]; omega
    have hcv : cur[j]? = some (.int .i64 (l.getD j 0)) := by
      have h5 := congrArg (·[j]?) hc4
      simp only [Nat.mul_one] at h5
      rw [List.getElem?_take_of_lt (by omega), List.getElem?_map, List.getElem?_eq_getElem hj] at h5
      rw [List.getD_eq_getElem?_getD, List.getElem?_eq_getElem hj]
      simpa using h5
    refine ⟨g, rfl, (Array.getElem?_eq_some_iff.1 hg).1, hcell.trans hcv, frozen_rowE hg j, ?_⟩
    refine ⟨by simp, .inr ⟨g, c, cur.setIfInBounds j (.int .i64 z), by rw [List.length_set], hB, setCell_row w g j cur 3 _ hg, by rw [List.length_set]; exact hc1, hc2, by simpa using hc3, ?_⟩⟩
    rw [List.length_set, Nat.mul_one, Array.toList_setIfInBounds, List.take_set, List.map_set]
    rw [Nat.mul_one] at hc4
    rw [hc4]
theorem both_x {U wa : World} {B X n j : Nat} {lv va : Value} {rep : List Int} {cX : Array Value} (ho : OwnI U B lv rep) (hX : U.heap[X]? = some (.cells cX 105 (0, 0))) (hd : (∃ g cp, lv = .slice (some ⟨g, 0, none⟩) n cp ∧ va = .slice (some ⟨g, 0, none⟩) (n + j) cp ∧ n + j ≤ cp ∧ U.grownBy wa (some g)) ∨ (U.grownBy wa none ∧ ∀ q, own va q → U.heap.size ≤ q)) : wa.heap[X]? = some (.cells cX 105 (0, 0)) := by
  have hXlt := (Array.getElem?_eq_some_iff.1 hX).1
  rcases hd with ⟨g, cp, hl, _, _, hg⟩ | ⟨hg, _⟩
  · refine (hg.block X hXlt (fun e => ?_)).trans hX
    have hq : own lv X := by rw [hl]; simp only [own, Value.ownBlock]; exact e.symm
    obtain ⟨c, hc⟩ := row_d ho hq
    rw [hX] at hc
    injection hc with hc
    injection hc with _ hc
    exact absurd hc (by decide)
  · exact (hg.block X hXlt (by simp)).trans hX
theorem MadeI.fr {w W : World} {lv u : Value} {n k : Nat} {m : Int} (h : MadeI w lv n u k m) (hf : Fr (fun _ => False) w W (fun _ => False)) : MadeI W lv n u k m :=
  ⟨h.1.fr hf, h.2.imp id fun hp q hq => ⟨(hp q hq).1, by obtain ⟨cur, hcur⟩ := (hp q hq).2; exact ⟨cur, (hf.same q (Array.getElem?_eq_some_iff.1 hcur).1 (fun h => h)).trans hcur⟩⟩⟩
def marks (l : List Int) (k : Nat) (m : Int) : List Int := List.replicate k m ++ l.drop k
theorem marks_set (l : List Int) (k : Nat) (m : Int) (h : k < l.length) : (marks l k m).set k m = marks l (k + 1) m := by
  unfold marks
  rw [List.set_append_right _ _ (by simp), List.length_replicate, Nat.sub_self, List.drop_eq_getElem_cons h, List.set_cons_zero, List.replicate_succ', List.append_assoc]
  rfl
theorem marks_len (l : List Int) (k : Nat) (m : Int) (h : k ≤ l.length) : (marks l k m).length = l.length := by
  unfold marks; rw [List.length_append, List.length_replicate, List.length_drop]; omega

theorem MadeI.ty {w : World} {lv u : Value} {B n k : Nat} {m : Int} {l : List Int} (h : MadeI w lv n u k m) (ho : OwnI w B lv l) {q : Nat} (hq : own u q) : ∃ cur, w.heap[q]? = some (.cells cur 3 (0, 0)) := by
  rcases h.2 with ⟨g, cp, hl, hu⟩ | hp
  · exact row_d ho (by rw [hl]; rw [hu] at hq; exact hq)
  · exact (hp q hq).2
theorem elem105 : Elem 61 105 5 104 := elem_of _ _ _ _ (.agg #[.slice none 0 0, .slice none 0 0, .slice none 0 0, .slice none 0 0, .int .i64 0]) Tryz.underlying61 (by kernel_rfl) rfl
/-- What comes of keepInts. -/
def KeptI (w w' : World) (B bb : Nat) (n : Int) (vI vE vN : Value) (LI LE LN : List Ent) (K : Nat → Prop) (lv : Value) : Prop :=
  ∃ vI' e K', BookK w' B bb n vI' vE vN (LI ++ [e]) LE LN K' ∧ (∀ q, K' q → K q ∨ own lv q ∨ w.heap.size ≤ q) ∧ (∀ q, own vI' q → own vI q ∨ w.heap.size ≤ q) ∧ Fr (fun q => q = bb ∨ own vI q ∨ own lv q ∨ w.heap.size ≤ q) w w' (fun q => q = bb ∨ own vI q ∨ own lv q ∨ w.heap.size ≤ q)
set_option maxHeartbeats 4000000 in
set_option maxRecDepth 20000 in
theorem keepInts_any {w : World} {B bb : Nat} {n : Int} {vI vE vN : Value} {LI LE LN : List Ent} {K : Nat → Prop} (h : BookK w B bb n vI vE vN LI LE LN K) (hBw : B ≤ w.heap.size) {lv : Value} {l : List Int} (ho : OwnI w B lv l) (hk : ∀ q, own lv q → ¬ K q) (hl : l.length ≤ 100000) (hL : LI.length ≤ 900000000000) :
    Calls Tryz.prog 79 #[.pointer (some ⟨bb, 0, none⟩), lv] w fun e w' => e = .returned (.tuple #[]) ∧ KeptI w w' B bb (wrap64 (n + 1)) vI vE vN LI LE LN K lv := by
  obtain ⟨a, c, rfl⟩ := ownI_slice ho
  obtain ⟨aI, cI, rfl⟩ := row_shape h.bk.rI
  have hnb : ¬ own (.slice a l.length c) bb := fun hq => by
    obtain ⟨cur, hcur⟩ := row_d ho hq
    rw [h.bk.blk] at hcur
    cases hcur
  have y0 := setCell_row w bb 0 _ 65 (.int .i64 (wrap64 (n + 1))) h.bk.blk
  have cb := fun j => cell_of_row w _ j _ 65 (0, 0) h.bk.blk
  have zb := fun j => frozen_rowE h.bk.blk j
  have HB := hide h
  have HO := hide ho
  have HK := hide hk
  clear h ho hk
  go_enter Tryz.func79, Tryz.ntmps79
  go_wp2
  have o1 : OwnI (w.setCell ⟨bb, 0, none⟩ (.int .i64 (wrap64 (n + 1)))) B (.slice a l.length c) (marks l 0 (wrap64 (1000 + wrap64 (n + 1)))) := by
    have e : marks l 0 (wrap64 (1000 + wrap64 (n + 1))) = l := by unfold marks; simp
    rw [e]
    exact ownsRow_of_block (unhide HO) (fun q hq => Below.heap_setCell _ _ _ _ (fun e => hnb (by have e' : q = bb := e; rw [← e']; exact hq)))
  have hf1 : Fr (fun q => q = bb) w (w.setCell ⟨bb, 0, none⟩ (.int .i64 (wrap64 (n + 1)))) (fun q => q = bb) := (Fr.refl _ _).setCell _ _ (.inl rfl)
  obtain ⟨m, hm⟩ : ∃ m, wrap64 (1000 + wrap64 (n + 1)) = m := ⟨_, rfl⟩
  rw [hm] at o1 ⊢
  generalize hw1 : w.setCell ⟨bb, 0, none⟩ (.int .i64 (wrap64 (n + 1))) = w1 at *
  have O1 := hide o1
  have Y0 := hide y0
  have HF1 := hide hf1
  clear o1 y0 hf1 hw1 hm cb zb
  go_loopw [5] (fun i wr => ∃ j : Nat, j ≤ l.length ∧ i = .int .i64 j ∧ OwnI wr B (.slice a l.length c) (marks l j m) ∧ Fr (own (.slice a l.length c)) w1 wr (own (.slice a l.length c))) (fun i _ => l.length - (intOf i).toNat)
  case atStart => exact ⟨0, Nat.zero_le _, rfl, unhide O1, Fr.refl _ _⟩
  case round =>
    obtain ⟨j, hj, rfl, hoj, hfj⟩ := hrel
    have hml := marks_len l j m hj
    by_cases hlt : j < l.length
    · rw [← hml] at hoj
      obtain ⟨g, hg, hgl, hc, hz, hn⟩ := ownI_set hoj j (by omega) m
      subst hg
      rw [hml, marks_set l j m hlt] at hn
      have HN := hide hn
      have HFJ := hide hfj
      have hk0 : (0 : Int) ≤ (j : Int) := by omega
      have hk1 : (j : Int) < (l.length : Int) := by omega
      clear hoj hn hfj hml
      go_wp2
      go_roundw
      case rel => exact ⟨j + 1, by omega, by go_num, unhide HN, (unhide HFJ).setCell _ _ (.inl rfl)⟩
      case measure => simp [intOf]; omega
    · have hjl : j = l.length := by omega
      subst hjl
      have hk1 : ¬ (l.length : Int) < (l.length : Int) := by omega
      have hrepE : marks l l.length m = List.replicate l.length m := by unfold marks; simp
      rw [hrepE] at hoj
      clear hml hrepE
      have C0n := heap_alloc_new wr (.cells #[.slice a l.length c, .slice none 0 0, .slice none 0 0, .slice none 0 0, .int .i64 m] 105)
      have v0o : OwnI ((wr.alloc (.cells #[.slice a l.length c, .slice none 0 0, .slice none 0 0, .slice none 0 0, .int .i64 m] 105)).alloc (.cells #[.int .i64 m] 3)) B (.slice a l.length c) (List.replicate l.length m) := World.ownsRow.alloc (World.ownsRow.alloc hoj _) _
      have v0x : ((wr.alloc (.cells #[.slice a l.length c, .slice none 0 0, .slice none 0 0, .slice none 0 0, .int .i64 m] 105)).alloc (.cells #[.int .i64 m] 3)).heap[wr.heap.size]? = some (.cells #[.slice a l.length c, .slice none 0 0, .slice none 0 0, .slice none 0 0, .int .i64 m] 105) := (Below.heap_alloc _ _ _ (by simp)).trans C0n
      have v0n : ((wr.alloc (.cells #[.slice a l.length c, .slice none 0 0, .slice none 0 0, .slice none 0 0, .int .i64 m] 105)).alloc (.cells #[.int .i64 m] 3)).heap[wr.heap.size + 1]? = some (.cells #[.int .i64 m] 3) := by
        have h := heap_alloc_new (wr.alloc (.cells #[.slice a l.length c, .slice none 0 0, .slice none 0 0, .slice none 0 0, .int .i64 m] 105)) (.cells #[.int .i64 m] 3)
        rwa [show (wr.alloc (.cells #[.slice a l.length c, .slice none 0 0, .slice none 0 0, .slice none 0 0, .int .i64 m] 105)).heap.size = wr.heap.size + 1 by simp] at h
      have hB0 : B ≤ ((wr.alloc (.cells #[.slice a l.length c, .slice none 0 0, .slice none 0 0, .slice none 0 0, .int .i64 m] 105)).alloc (.cells #[.int .i64 m] 3)).heap.size := by
        have h1 := (unhide HF1).size
        have h2 := hfj.size
        simp; omega
      have V0O := hide v0o
      have V0X := hide v0x
      have V0N := hide v0n
      have HFJ := hide hfj
      clear hoj hfj C0n v0o v0x v0n
      go_wp2_with (at_builtin; first | (refine wpList_both elemI (by omega) (by omega) (B := B) (n := l.length) (m := 1) (xs := (List.replicate l.length m).map fun z => Value.int .i64 z) (news := (List.replicate 1 m).map fun z => Value.int .i64 z) rfl (.tmp 32) (.tmp 34) rfl (ad := ⟨wr.heap.size + 1, 0, none⟩) (cap := 1) rfl rfl (by have h := unhide V0O; unfold OwnI at h; rw [List.length_replicate] at h; exact h) rfl (World.news_of_block (unhide V0N)) (by simp [Value.oneCell']) (by omega) (by omega) hB0 ?_; intro va wa sha ra da; obtain ⟨aa, ca, rfl⟩ := sha; rw [← List.map_append] at ra; have xa := both_x (unhide V0O) (unhide V0X) da; have kca := fun i => cell_of_row wa _ i _ 105 (0, 0) xa; have kza := fun i => frozen_rowE xa i; have K1 := hide (keep_one (k := 1) (by simp) (fun z hz => List.eq_of_mem_replicate hz) (by omega) (unhide V0O) (unhide V0X) ra da); clear ra da xa V0N; have V1O := hide (show OwnI ((wa.setCell ⟨wr.heap.size, 1, none⟩ (.slice aa (l.length + 1) ca)).alloc (.cells #[.int .i64 m, .int .i64 m] 3)) B (.slice a l.length c) (List.replicate l.length m) from World.ownsRow.alloc (unhide K1).1 _); have V1X := hide (show ((wa.setCell ⟨wr.heap.size, 1, none⟩ (.slice aa (l.length + 1) ca)).alloc (.cells #[.int .i64 m, .int .i64 m] 3)).heap[wr.heap.size]? = some (.cells #[.slice a l.length c, .slice aa (l.length + 1) ca, .slice none 0 0, .slice none 0 0, .int .i64 m] 105) from (Below.heap_alloc _ _ _ (Array.getElem?_eq_some_iff.1 (unhide K1).2.1).1).trans (unhide K1).2.1); have V1N := hide (show ((wa.setCell ⟨wr.heap.size, 1, none⟩ (.slice aa (l.length + 1) ca)).alloc (.cells #[.int .i64 m, .int .i64 m] 3)).heap[wa.heap.size]? = some (.cells #[.int .i64 m, .int .i64 m] 3) from (by have h := heap_alloc_new (wa.setCell ⟨wr.heap.size, 1, none⟩ (.slice aa (l.length + 1) ca)) (.cells #[.int .i64 m, .int .i64 m] 3); rwa [show (wa.setCell ⟨wr.heap.size, 1, none⟩ (.slice aa (l.length + 1) ca)).heap.size = wa.heap.size by simp [World.setCell]] at h)); have hB1 : B ≤ ((wa.setCell ⟨wr.heap.size, 1, none⟩ (.slice aa (l.length + 1) ca)).alloc (.cells #[.int .i64 m, .int .i64 m] 3)).heap.size := (by have h := (unhide K1).2.2.2.2.1.size; have h0 := hB0; simp at h h0 ⊢; omega)) | (refine wpList_both elemI (by omega) (by omega) (B := B) (n := l.length) (m := 2) (xs := (List.replicate l.length m).map fun z => Value.int .i64 z) (news := (List.replicate 2 m).map fun z => Value.int .i64 z) rfl (.tmp 37) (.tmp 40) rfl (ad := ⟨wa.heap.size, 0, none⟩) (cap := 2) rfl rfl (by have h := unhide V1O; unfold OwnI at h; rw [List.length_replicate] at h; exact h) rfl (World.news_of_block (unhide V1N)) (by simp [Value.oneCell']) (by omega) (by omega) hB1 ?_; intro va wb sha ra da; obtain ⟨ab, cb, rfl⟩ := sha; rw [← List.map_append] at ra; have xa := both_x (unhide V1O) (unhide V1X) da; have kcb := fun i => cell_of_row wb _ i _ 105 (0, 0) xa; have kzb := fun i => frozen_rowE xa i; have K2 := hide (keep_one (k := 2) (by simp) (fun z hz => List.eq_of_mem_replicate hz) (by omega) (unhide V1O) (unhide V1X) ra da); clear ra da xa V1N; have V2O := hide (show OwnI ((wb.setCell ⟨wr.heap.size, 2, none⟩ (.slice ab (l.length + 2) cb)).alloc (.cells #[.int .i64 m, .int .i64 m, .int .i64 m] 3)) B (.slice a l.length c) (List.replicate l.length m) from World.ownsRow.alloc (unhide K2).1 _); have V2X := hide (show ((wb.setCell ⟨wr.heap.size, 2, none⟩ (.slice ab (l.length + 2) cb)).alloc (.cells #[.int .i64 m, .int .i64 m, .int .i64 m] 3)).heap[wr.heap.size]? = some (.cells #[.slice a l.length c, .slice aa (l.length + 1) ca, .slice ab (l.length + 2) cb, .slice none 0 0, .int .i64 m] 105) from (Below.heap_alloc _ _ _ (Array.getElem?_eq_some_iff.1 (unhide K2).2.1).1).trans (unhide K2).2.1); have V2N := hide (show ((wb.setCell ⟨wr.heap.size, 2, none⟩ (.slice ab (l.length + 2) cb)).alloc (.cells #[.int .i64 m, .int .i64 m, .int .i64 m] 3)).heap[wb.heap.size]? = some (.cells #[.int .i64 m, .int .i64 m, .int .i64 m] 3) from (by have h := heap_alloc_new (wb.setCell ⟨wr.heap.size, 2, none⟩ (.slice ab (l.length + 2) cb)) (.cells #[.int .i64 m, .int .i64 m, .int .i64 m] 3); rwa [show (wb.setCell ⟨wr.heap.size, 2, none⟩ (.slice ab (l.length + 2) cb)).heap.size = wb.heap.size by simp [World.setCell]] at h)); have hB2 : B ≤ ((wb.setCell ⟨wr.heap.size, 2, none⟩ (.slice ab (l.length + 2) cb)).alloc (.cells #[.int .i64 m, .int .i64 m, .int .i64 m] 3)).heap.size := (by have h := (unhide K2).2.2.2.2.1.size; have h0 := hB1; simp at h h0 ⊢; omega)) | (refine wpList_both elemI (by omega) (by omega) (B := B) (n := l.length) (m := 3) (xs := (List.replicate l.length m).map fun z => Value.int .i64 z) (news := (List.replicate 3 m).map fun z => Value.int .i64 z) rfl (.tmp 43) (.tmp 47) rfl (ad := ⟨wb.heap.size, 0, none⟩) (cap := 3) rfl rfl (by have h := unhide V2O; unfold OwnI at h; rw [List.length_replicate] at h; exact h) rfl (World.news_of_block (unhide V2N)) (by simp [Value.oneCell']) (by omega) (by omega) hB2 ?_; intro va wc sha ra da; obtain ⟨ac, cc, rfl⟩ := sha; rw [← List.map_append] at ra; have xa := both_x (unhide V2O) (unhide V2X) da; have kcc := fun i => cell_of_row wc _ i _ 105 (0, 0) xa; have kzc := fun i => frozen_rowE xa i; have K3 := hide (keep_one (k := 3) (by simp) (fun z hz => List.eq_of_mem_replicate hz) (by omega) (unhide V2O) (unhide V2X) ra da); clear ra da xa V2N; skip))
      have hXB : w.heap.size ≤ wr.heap.size := Nat.le_trans (unhide HF1).size (unhide HFJ).size
      have f1 : Fr (fun q => own (.slice a l.length c) q ∨ q = wr.heap.size) w1 (wc.setCell ⟨wr.heap.size, 3, none⟩ (.slice ac (l.length + 3) cc)) (fun q => own (.slice a l.length c) q ∨ q = wr.heap.size) :=
        ((unhide HFJ).widen (fun _ h => .inl h)).trans ((((Fr.refl _ wr).alloc _).alloc _).trans ((unhide K1).2.2.2.2.1.trans (((Fr.refl _ _).alloc _).trans ((unhide K2).2.2.2.2.1.trans (((Fr.refl _ _).alloc _).trans (unhide K3).2.2.2.2.1)))))
      have hbl : bb < w1.heap.size := (Array.getElem?_eq_some_iff.1 (unhide Y0)).1
      have hbd : (wc.setCell ⟨wr.heap.size, 3, none⟩ (.slice ac (l.length + 3) cc)).heap[bb]? = some (.cells #[.int .i64 (wrap64 (n + 1)), .slice aI LI.length cI, vE, vN] 65) := (f1.same bb hbl (fun h => by
        rcases h with h | h
        · exact hnb h
        · have := (unhide HFJ).size; omega)).trans (unhide Y0)
      have fT : Fr (fun q => q = bb ∨ own (.slice a l.length c) q ∨ w.heap.size ≤ q) w (wc.setCell ⟨wr.heap.size, 3, none⟩ (.slice ac (l.length + 3) cc)) (fun q => q = bb ∨ own (.slice a l.length c) q ∨ w.heap.size ≤ q) :=
        ((unhide HF1).widen (fun _ h => .inl h)).trans (f1.widen (fun q h => by
          rcases h with h | h
          · exact .inr (.inl h)
          · exact .inr (.inr (by omega))))
      have bk := (unhide HB).mid fT (fun q hq h => by
        rcases h with h | h | h
        · exact .inl h
        · obtain ⟨cur, hcur⟩ := row_d (unhide HO) h
          exact .inr ⟨unhide HK q h, own_ty (unhide HB).bk.rI hcur (by decide), own_ty (unhide HB).bk.rE hcur (by decide), own_ty (unhide HB).bk.rN hcur (by decide)⟩
        · omega) hbd
      have m1 := (unhide K3).2.2.2.1 _ 1 (by omega) (((unhide K2).2.2.2.1 _ 1 (by omega) ((unhide K1).2.2.1.fr ((Fr.refl _ _).alloc _))).fr ((Fr.refl _ _).alloc _))
      have m2 := (unhide K3).2.2.2.1 _ 2 (by omega) ((unhide K2).2.2.1.fr ((Fr.refl _ _).alloc _))
      have m3 := (unhide K3).2.2.1
      have od := (unhide K3).1
      have xd := (unhide K3).2.1
      have g1 := (unhide K1).2.2.2.2.2
      have g2 := (unhide K2).2.2.2.2.2
      have g3 := (unhide K3).2.2.2.2.2
      have s1 : w.heap.size ≤ ((wr.alloc (.cells #[.slice a l.length c, .slice none 0 0, .slice none 0 0, .slice none 0 0, .int .i64 m] 105)).alloc (.cells #[.int .i64 m] 3)).heap.size := by simp; omega
      have s2 := Nat.le_trans (Nat.le_trans s1 (unhide K1).2.2.2.2.1.size) (Fr.size ((Fr.refl (fun _ => False) _).alloc (.cells #[.int .i64 m, .int .i64 m] 3)))
      have s3 := Nat.le_trans (Nat.le_trans s2 (unhide K2).2.2.2.2.1.size) (Fr.size ((Fr.refl (fun _ => False) _).alloc (.cells #[.int .i64 m, .int .i64 m, .int .i64 m] 3)))
      have fresh : ∀ q, (own (.slice a l.length c) q ∨ own (.slice aa (l.length + 1) ca) q ∨ own (.slice ab (l.length + 2) cb) q ∨ own (.slice ac (l.length + 3) cc) q) → own (.slice a l.length c) q ∨ w.heap.size ≤ q := fun q hq => by
        rcases hq with h | h | h | h
        · exact .inl h
        · exact (g1 q h).imp id (fun h => Nat.le_trans s1 h)
        · exact (g2 q h).imp id (fun h => Nat.le_trans s2 h)
        · exact (g3 q h).imp id (fun h => Nat.le_trans s3 h)
      have hRI := (unhide HB).bk.rI
      clear g1 g2 g3 s1 s2 s3 f1 hbd hbl K1 K2 K3 V0O V0X V1O V1X V2O V2X HB HO HK HF1 HFJ Y0 O1 hB0 hB1 hB2 kca kza kcb kzb kcc kzc
      have hwd : B ≤ (wc.setCell ⟨wr.heap.size, 3, none⟩ (.slice ac (l.length + 3) cc)).heap.size := Nat.le_trans hBw fT.size
      generalize wc.setCell ⟨wr.heap.size, 3, none⟩ (.slice ac (l.length + 3) cc) = wd at *
      have ty : ∀ q, (own (.slice a l.length c) q ∨ own (.slice aa (l.length + 1) ca) q ∨ own (.slice ab (l.length + 2) cb) q ∨ own (.slice ac (l.length + 3) cc) q) → ∃ cur, wd.heap[q]? = some (.cells cur 3 (0, 0)) := fun q hq => by
        rcases hq with h | h | h | h
        · exact row_d od h
        · exact m1.ty od h
        · exact m2.ty od h
        · exact m3.ty od h
      have full : FullI wd (.slice a l.length c) m ∧ FullI wd (.slice aa (l.length + 1) ca) m ∧ FullI wd (.slice ab (l.length + 2) cb) m ∧ FullI wd (.slice ac (l.length + 3) cc) m := ⟨od.full (by simp; omega) (fun z hz => List.eq_of_mem_replicate hz), m1.1, m2.1, m3.1⟩
      have cbb := fun j => cell_of_row wd bb j _ 65 (0, 0) bk.bk.blk
      have hXI : ¬ own (.slice aI LI.length cI) wr.heap.size := fun hq => by have := (World.ownsRow.lt hRI _ hq).2; omega
      have FT := hide fT
      have BK := hide bk
      have TY := hide ty
      have FULL := hide full
      have FRESH := hide fresh
      have XD := hide xd
      clear fT bk ty full fresh m1 m2 m3 od
      have hE5 : ∀ o, (wd.alloc o).drew.heap[wr.heap.size]? = some (.cells #[.slice a l.length c, .slice aa (l.length + 1) ca, .slice ab (l.length + 2) cb, .slice ac (l.length + 3) cc, .int .i64 m] 105 (0, 0)) := fun o => (Below.heap_alloc wd o _ (Array.getElem?_eq_some_iff.1 (unhide XD)).1).trans (unhide XD)
      have cbq : ∀ o, (wd.alloc o).drew.cell? ⟨bb, 1, none⟩ = some (.slice aI LI.length cI) := fun o => by
        have h : (wd.alloc o).drew.heap[bb]? = _ := (Below.heap_alloc wd o _ (Array.getElem?_eq_some_iff.1 (unhide BK).bk.blk).1).trans (unhide BK).bk.blk
        exact cell_of_row _ _ 1 _ 65 (0, 0) h
      clear xd
      have hXb : wr.heap.size ≠ bb := fun e => by have h := unhide XD; rw [e] at h; exact absurd (ty_one h (unhide BK).bk.blk) (by decide)
      have hX5 : ¬ own (.slice aI LI.length cI) wr.heap.size := fun hq => by
        have h := hXI; exact h hq
      have fin : ∀ v' w3, w3.ownsRow B 105 5 v' (LI.length + 1) (flat5 LI ++ [.slice a l.length c, .slice aa (l.length + 1) ca, .slice ab (l.length + 2) cb, .slice ac (l.length + 3) cc, .int .i64 m]) → Fr (own (.slice aI LI.length cI)) (wd.alloc (.cells #[.slice a l.length c, .slice aa (l.length + 1) ca, .slice ab (l.length + 2) cb, .slice ac (l.length + 3) cc, .int .i64 m] 105)).drew w3 (own v') → KeptI w (w3.setCell ⟨bb, 1, none⟩ v') B bb (wrap64 (n + 1)) (.slice aI LI.length cI) vE vN LI LE LN K (.slice a l.length c) := fun v' w3 o3 f3 => by
        have fa : Fr (fun _ => False) wd (wd.alloc (.cells #[.slice a l.length c, .slice aa (l.length + 1) ca, .slice ab (l.length + 2) cb, .slice ac (l.length + 3) cc, .int .i64 m] 105)).drew (fun _ => False) := ((Fr.refl _ _).alloc _).drew
        have hall : ∀ q, q < wd.heap.size → (wd.alloc (.cells #[.slice a l.length c, .slice aa (l.length + 1) ca, .slice ab (l.length + 2) cb, .slice ac (l.length + 3) cc, .int .i64 m] 105)).drew.heap[q]? = wd.heap[q]? := fun q hq => fa.same q hq (fun h => h)
        have full := unhide FULL
        have hb := ((unhide BK).fr fa).addI (e := ⟨.slice a l.length c, .slice aa (l.length + 1) ca, .slice ab (l.length + 2) cb, .slice ac (l.length + 3) cc, m⟩) (K2 := fun q => own (.slice a l.length c) q ∨ own (.slice aa (l.length + 1) ca) q ∨ own (.slice ab (l.length + 2) cb) q ∨ own (.slice ac (l.length + 3) cc) q) ⟨full.1.fr fa, full.2.1.fr fa, full.2.2.1.fr fa, full.2.2.2.fr fa⟩ ⟨own_lies.mono (fun _ h => .inl h), own_lies.mono (fun _ h => .inr (.inl h)), own_lies.mono (fun _ h => .inr (.inr (.inl h))), own_lies.mono (fun _ h => .inr (.inr (.inr h)))⟩ (fun q hq => by
          obtain ⟨cur, hcur⟩ := unhide TY q hq
          exact ⟨cur, (hall q (Array.getElem?_eq_some_iff.1 hcur).1).trans hcur⟩) o3 f3
        refine ⟨v', _, _, hb, fun q hq => ?_, fun q hq => ?_, ?_⟩
        · rcases hq with h | h
          · exact .inl h
          · exact .inr (unhide FRESH q h)
        · by_cases hlt : q < w.heap.size
          · exact .inl (f3.old q (Nat.lt_of_lt_of_le hlt (Nat.le_trans (unhide FT).size fa.size)) hq)
          · exact .inr (by omega)
        · refine Fr.setCell ?_ _ _ (.inl (.inl rfl))
          refine ((unhide FT).widen (fun q h => ?_)).trans ((fa.widen (fun q h => h.elim)).trans (f3.widen (fun q h => .inr (.inl h))))
          rcases h with h | h | h
          · exact .inl h
          · exact .inr (.inr (.inl h))
          · exact .inr (.inr (.inr h))
      refine wp_region_held_drew (S := fun w' => w'.heap[wr.heap.size]? = some (.cells #[.slice a l.length c, .slice aa (l.length + 1) ca, .slice ab (l.length + 2) cb, .slice ac (l.length + 3) cc, .int .i64 m] 105 (0, 0))) (by kernel_rfl) ?_ (fun hHeld => ?_)
      · exact unhide XD
      refine wpAnyH_take (i := 0) (oi := { dst := some 50, op := Op.move (Operand.tmp 0), type := 60, pos := "law.go:101", after := #[], guard := none }) (v := ?_) rfl (by kernel_rfl) (by kernel_rfl) (by kernel_rfl) (fun _ _ _ h => h) (Or.inl ⟨by rfl, ?_⟩) (by assumption) ?_
      rotate_left
      · intro w hSw; (try dsimp only at hSw); go_simp; try with_reducible rfl
      simp only [Act.put, List.setIfInBounds_toArray, List.set_cons_zero, List.set_cons_succ]
      refine wpAnyH_take (i := 1) (oi := { dst := some 51, op := Op.move (Operand.tmp 0), type := 60, pos := "law.go:101", after := #[], guard := none }) (v := ?_) rfl (by kernel_rfl) (by kernel_rfl) (by kernel_rfl) (fun _ _ _ h => h) (Or.inl ⟨by rfl, ?_⟩) (by assumption) ?_
      rotate_left
      · intro w hSw; (try dsimp only at hSw); go_simp; try with_reducible rfl
      simp only [Act.put, List.setIfInBounds_toArray, List.set_cons_zero, List.set_cons_succ]
      refine wpAnyH_take (i := 2) (oi := { dst := some 52, op := Op.nilCheck (Operand.tmp 51), type := 0, pos := "law.go:101", after := #[{ on := 1, ground := Ground.data }], guard := none }) (v := ?_) rfl (by kernel_rfl) (by kernel_rfl) (by kernel_rfl) (fun _ _ _ h => h) (Or.inl ⟨by rfl, ?_⟩) (by assumption) ?_
      rotate_left
      · intro w hSw; (try dsimp only at hSw); go_simp; try with_reducible rfl
      simp only [Act.put, List.setIfInBounds_toArray, List.set_cons_zero, List.set_cons_succ]
      refine wpAnyH_take (i := 3) (oi := { dst := some 53, op := Op.fieldAddr 65 (Operand.tmp 52) 1, type := 0, pos := "law.go:101", after := #[{ on := 2, ground := Ground.data }], guard := none }) (v := ?_) rfl (by kernel_rfl) (by kernel_rfl) (by kernel_rfl) (fun _ _ _ h => h) (Or.inl ⟨by rfl, ?_⟩) (by assumption) ?_
      rotate_left
      · intro w hSw; (try dsimp only at hSw); go_simp; try with_reducible rfl
      simp only [Act.put, List.setIfInBounds_toArray, List.set_cons_zero, List.set_cons_succ]
      refine wpAnyH_take (i := 5) (oi := { dst := some 55, op := Op.load 105 (Operand.tmp 6), type := 105, pos := "law.go:101", after := #[], guard := none }) (v := ?_) rfl (by kernel_rfl) (by kernel_rfl) (by kernel_rfl) (fun _ _ _ h => h) (Or.inl ⟨by rfl, ?_⟩) (by assumption) ?_
      rotate_left
      · intro w hSw; have c5 := fun j => cell_of_row w _ j _ 105 (0, 0) hSw; go_simp; try with_reducible rfl
      simp only [Act.put, List.setIfInBounds_toArray, List.set_cons_zero, List.set_cons_succ]
      refine wpAnyH_ready (rs := [4, 6]) (by kernel_rfl) (by simp) ?_
      refine AllReadyH.cons (o := { dst := some 54, op := Op.load 61 (Operand.tmp 53), type := 61, pos := "law.go:101", after := #[{ on := 3, ground := Ground.data }], guard := none }) rfl (fun K' hK' => ?_) (AllReadyH.cons (o := { dst := some 56, op := Op.buildSlice 61 1 #[(0, Operand.tmp 55)], type := 61, pos := "law.go:101", after := #[{ on := 5, ground := Ground.data }], guard := none }) rfl (fun K' hK' => ?_) AllReadyH.nil)
      · go_simp
        refine hK'.out _ _ ?_ (fun hHeld => ?_)
        · exact unhide XD
        clear hK' K'
        try simp only [Act.put, List.setIfInBounds_toArray, List.set_cons_zero, List.set_cons_succ]
        refine wpAnyH_ready (rs := [6]) (by kernel_rfl) (by simp) ?_
        refine AllReadyH.cons (o := { dst := some 56, op := Op.buildSlice 61 1 #[(0, Operand.tmp 55)], type := 61, pos := "law.go:101", after := #[{ on := 5, ground := Ground.data }], guard := none }) rfl (fun K' hK' => ?_) AllReadyH.nil
        go_simp
        refine hK'.out _ _ ?_ (fun hHeld => ?_)
        · exact hE5 _
        clear hK' K'
        try simp only [Act.put, List.setIfInBounds_toArray, List.set_cons_zero, List.set_cons_succ]
        refine wpAnyH_ready (rs := [7]) (by kernel_rfl) (by simp) ?_
        refine AllReadyH.cons (o := { dst := some 57, op := Op.call { callee := Callee.builtin Builtin.append, args := #[Operand.tmp 54, Operand.tmp 56], argTypes := #[61, 61] }, type := 61, pos := "law.go:101", after := #[{ on := 4, ground := Ground.data }, { on := 6, ground := Ground.data }], guard := none }) rfl (fun K' hK' => ?_) AllReadyH.nil
        refine step_grown (d := 57) rfl elem105 (by decide) (by decide) (v := .slice aI LI.length cI) (n := LI.length) (m := 1) (xs := flat5 LI) (news := [.slice a l.length c, .slice aa (l.length + 1) ca, .slice ab (l.length + 2) cb, .slice ac (l.length + 3) cc, .int .i64 m]) (B := B) (ad := ⟨wd.heap.size, 0, none⟩) (cap := 1) rfl (.tmp 54) (.tmp 56) rfl rfl rfl ((unhide BK).fr ((Fr.refl _ _).alloc (.cells #[.slice a l.length c, .slice aa (l.length + 1) ca, .slice ab (l.length + 2) cb, .slice ac (l.length + 3) cc, .int .i64 m] 105)).drew).bk.rI rfl (World.news_of_block (heap_alloc_new wd _)) (by simp [Value.oneCell']) (by omega) (by omega) (by simp; omega) ?_
        intro v3 w3 o3 f3 sh3
        obtain ⟨av, cv, rfl⟩ := sh3
        have pr : w3.heap[bb]? = some (.cells #[.int .i64 (wrap64 (n + 1)), .slice aI LI.length cI, vE, vN] 65) := by
          have hb2 := ((unhide BK).fr ((Fr.refl _ _).alloc (.cells #[.slice a l.length c, .slice aa (l.length + 1) ca, .slice ab (l.length + 2) cb, .slice ac (l.length + 3) cc, .int .i64 m] 105)).drew)
          exact (f3.same bb (Array.getElem?_eq_some_iff.1 hb2.bk.blk).1 (own_ty hb2.bk.rI hb2.bk.blk (by decide))).trans hb2.bk.blk
        have pc := fun j => cell_of_row w3 bb j _ 65 (0, 0) pr
        have pz := fun j => frozen_rowE pr j
        have gg : w3.heap[wr.heap.size]? = some (.cells #[.slice a l.length c, .slice aa (l.length + 1) ca, .slice ab (l.length + 2) cb, .slice ac (l.length + 3) cc, .int .i64 m] 105 (0, 0)) := (f3.same _ (Array.getElem?_eq_some_iff.1 (hE5 _)).1 (fun hq => ?_)).trans (hE5 (.cells #[.slice a l.length c, .slice aa (l.length + 1) ca, .slice ab (l.length + 2) cb, .slice ac (l.length + 3) cc, .int .i64 m] 105))
        rotate_left
        · exact hX5 hq
        have O3 := hide o3
        have F3 := hide f3
        clear o3 f3 pr
        refine hK'.out _ _ gg (fun hHeld => ?_)
        clear hK' K'
        simp only [List.setIfInBounds_toArray, List.set_cons_zero, List.set_cons_succ]
        refine wpAnyH_take (i := 8) (oi := { dst := some 58, op := Op.nilCheck (Operand.tmp 50), type := 0, pos := "law.go:101", after := #[{ on := 0, ground := Ground.data }, { on := 0, ground := Ground.phase }, { on := 1, ground := Ground.phase }, { on := 2, ground := Ground.phase }, { on := 3, ground := Ground.phase }, { on := 4, ground := Ground.phase }, { on := 5, ground := Ground.phase }, { on := 6, ground := Ground.phase }, { on := 7, ground := Ground.phase }], guard := none }) (v := ?_) rfl (by kernel_rfl) (by kernel_rfl) (by kernel_rfl) (fun _ _ _ h => h) (Or.inl ⟨by rfl, ?_⟩) (by assumption) ?_
        rotate_left
        · intro w hSw; (try dsimp only at hSw); go_simp; try with_reducible rfl
        simp only [Act.put, List.setIfInBounds_toArray, List.set_cons_zero, List.set_cons_succ]
        refine wpAnyH_take (i := 9) (oi := { dst := some 59, op := Op.fieldAddr 65 (Operand.tmp 58) 1, type := 0, pos := "law.go:101", after := #[{ on := 8, ground := Ground.data }, { on := 0, ground := Ground.phase }, { on := 1, ground := Ground.phase }, { on := 2, ground := Ground.phase }, { on := 3, ground := Ground.phase }, { on := 4, ground := Ground.phase }, { on := 5, ground := Ground.phase }, { on := 6, ground := Ground.phase }, { on := 7, ground := Ground.phase }], guard := none }) (v := ?_) rfl (by kernel_rfl) (by kernel_rfl) (by kernel_rfl) (fun _ _ _ h => h) (Or.inl ⟨by rfl, ?_⟩) (by assumption) ?_
        rotate_left
        · intro w hSw; (try dsimp only at hSw); go_simp; try with_reducible rfl
        simp only [Act.put, List.setIfInBounds_toArray, List.set_cons_zero, List.set_cons_succ]
        refine wpAnyH_ready (rs := [10]) (by kernel_rfl) (by simp) ?_
        refine AllReadyH.cons (o := { dst := none, op := Op.store 61 (Operand.tmp 59) (Operand.tmp 57), type := 0, pos := "law.go:101", after := #[{ on := 9, ground := Ground.data }, { on := 7, ground := Ground.data }, { on := 7, ground := Ground.chain }, { on := 0, ground := Ground.phase }, { on := 1, ground := Ground.phase }, { on := 2, ground := Ground.phase }, { on := 3, ground := Ground.phase }, { on := 4, ground := Ground.phase }, { on := 5, ground := Ground.phase }, { on := 6, ground := Ground.phase }, { on := 7, ground := Ground.phase }], guard := none }) rfl (fun K' hK' => ?_) AllReadyH.nil
        go_simp
        refine hK'.out _ _ ?_ (fun hHeld => ?_)
        · exact (Below.heap_setCell _ _ _ _ hXb).trans gg
        clear hK' K'
        try simp only [Act.put, List.setIfInBounds_toArray, List.set_cons_zero, List.set_cons_succ]
        refine wpAnyH_done (by kernel_rfl) ?_ _
        go_wp2
        go_end0
        exact ⟨rfl, fin _ w3 (unhide O3) (unhide F3)⟩
      · go_simp
        refine hK'.out _ _ ?_ (fun hHeld => ?_)
        · exact hE5 _
        clear hK' K'
        try simp only [Act.put, List.setIfInBounds_toArray, List.set_cons_zero, List.set_cons_succ]
        refine wpAnyH_ready (rs := [4]) (by kernel_rfl) (by simp) ?_
        refine AllReadyH.cons (o := { dst := some 54, op := Op.load 61 (Operand.tmp 53), type := 61, pos := "law.go:101", after := #[{ on := 3, ground := Ground.data }], guard := none }) rfl (fun K' hK' => ?_) AllReadyH.nil
        go_simp
        refine hK'.out _ _ ?_ (fun hHeld => ?_)
        · exact hE5 _
        clear hK' K'
        try simp only [Act.put, List.setIfInBounds_toArray, List.set_cons_zero, List.set_cons_succ]
        refine wpAnyH_ready (rs := [7]) (by kernel_rfl) (by simp) ?_
        refine AllReadyH.cons (o := { dst := some 57, op := Op.call { callee := Callee.builtin Builtin.append, args := #[Operand.tmp 54, Operand.tmp 56], argTypes := #[61, 61] }, type := 61, pos := "law.go:101", after := #[{ on := 4, ground := Ground.data }, { on := 6, ground := Ground.data }], guard := none }) rfl (fun K' hK' => ?_) AllReadyH.nil
        refine step_grown (d := 57) rfl elem105 (by decide) (by decide) (v := .slice aI LI.length cI) (n := LI.length) (m := 1) (xs := flat5 LI) (news := [.slice a l.length c, .slice aa (l.length + 1) ca, .slice ab (l.length + 2) cb, .slice ac (l.length + 3) cc, .int .i64 m]) (B := B) (ad := ⟨wd.heap.size, 0, none⟩) (cap := 1) rfl (.tmp 54) (.tmp 56) rfl rfl rfl ((unhide BK).fr ((Fr.refl _ _).alloc (.cells #[.slice a l.length c, .slice aa (l.length + 1) ca, .slice ab (l.length + 2) cb, .slice ac (l.length + 3) cc, .int .i64 m] 105)).drew).bk.rI rfl (World.news_of_block (heap_alloc_new wd _)) (by simp [Value.oneCell']) (by omega) (by omega) (by simp; omega) ?_
        intro v3 w3 o3 f3 sh3
        obtain ⟨av, cv, rfl⟩ := sh3
        have pr : w3.heap[bb]? = some (.cells #[.int .i64 (wrap64 (n + 1)), .slice aI LI.length cI, vE, vN] 65) := by
          have hb2 := ((unhide BK).fr ((Fr.refl _ _).alloc (.cells #[.slice a l.length c, .slice aa (l.length + 1) ca, .slice ab (l.length + 2) cb, .slice ac (l.length + 3) cc, .int .i64 m] 105)).drew)
          exact (f3.same bb (Array.getElem?_eq_some_iff.1 hb2.bk.blk).1 (own_ty hb2.bk.rI hb2.bk.blk (by decide))).trans hb2.bk.blk
        have pc := fun j => cell_of_row w3 bb j _ 65 (0, 0) pr
        have pz := fun j => frozen_rowE pr j
        have gg : w3.heap[wr.heap.size]? = some (.cells #[.slice a l.length c, .slice aa (l.length + 1) ca, .slice ab (l.length + 2) cb, .slice ac (l.length + 3) cc, .int .i64 m] 105 (0, 0)) := (f3.same _ (Array.getElem?_eq_some_iff.1 (hE5 _)).1 (fun hq => ?_)).trans (hE5 (.cells #[.slice a l.length c, .slice aa (l.length + 1) ca, .slice ab (l.length + 2) cb, .slice ac (l.length + 3) cc, .int .i64 m] 105))
        rotate_left
        · exact hX5 hq
        have O3 := hide o3
        have F3 := hide f3
        clear o3 f3 pr
        refine hK'.out _ _ gg (fun hHeld => ?_)
        clear hK' K'
        simp only [List.setIfInBounds_toArray, List.set_cons_zero, List.set_cons_succ]
        refine wpAnyH_take (i := 8) (oi := { dst := some 58, op := Op.nilCheck (Operand.tmp 50), type := 0, pos := "law.go:101", after := #[{ on := 0, ground := Ground.data }, { on := 0, ground := Ground.phase }, { on := 1, ground := Ground.phase }, { on := 2, ground := Ground.phase }, { on := 3, ground := Ground.phase }, { on := 4, ground := Ground.phase }, { on := 5, ground := Ground.phase }, { on := 6, ground := Ground.phase }, { on := 7, ground := Ground.phase }], guard := none }) (v := ?_) rfl (by kernel_rfl) (by kernel_rfl) (by kernel_rfl) (fun _ _ _ h => h) (Or.inl ⟨by rfl, ?_⟩) (by assumption) ?_
        rotate_left
        · intro w hSw; (try dsimp only at hSw); go_simp; try with_reducible rfl
        simp only [Act.put, List.setIfInBounds_toArray, List.set_cons_zero, List.set_cons_succ]
        refine wpAnyH_take (i := 9) (oi := { dst := some 59, op := Op.fieldAddr 65 (Operand.tmp 58) 1, type := 0, pos := "law.go:101", after := #[{ on := 8, ground := Ground.data }, { on := 0, ground := Ground.phase }, { on := 1, ground := Ground.phase }, { on := 2, ground := Ground.phase }, { on := 3, ground := Ground.phase }, { on := 4, ground := Ground.phase }, { on := 5, ground := Ground.phase }, { on := 6, ground := Ground.phase }, { on := 7, ground := Ground.phase }], guard := none }) (v := ?_) rfl (by kernel_rfl) (by kernel_rfl) (by kernel_rfl) (fun _ _ _ h => h) (Or.inl ⟨by rfl, ?_⟩) (by assumption) ?_
        rotate_left
        · intro w hSw; (try dsimp only at hSw); go_simp; try with_reducible rfl
        simp only [Act.put, List.setIfInBounds_toArray, List.set_cons_zero, List.set_cons_succ]
        refine wpAnyH_ready (rs := [10]) (by kernel_rfl) (by simp) ?_
        refine AllReadyH.cons (o := { dst := none, op := Op.store 61 (Operand.tmp 59) (Operand.tmp 57), type := 0, pos := "law.go:101", after := #[{ on := 9, ground := Ground.data }, { on := 7, ground := Ground.data }, { on := 7, ground := Ground.chain }, { on := 0, ground := Ground.phase }, { on := 1, ground := Ground.phase }, { on := 2, ground := Ground.phase }, { on := 3, ground := Ground.phase }, { on := 4, ground := Ground.phase }, { on := 5, ground := Ground.phase }, { on := 6, ground := Ground.phase }, { on := 7, ground := Ground.phase }], guard := none }) rfl (fun K' hK' => ?_) AllReadyH.nil
        go_simp
        refine hK'.out _ _ ?_ (fun hHeld => ?_)
        · exact (Below.heap_setCell _ _ _ _ hXb).trans gg
        clear hK' K'
        try simp only [Act.put, List.setIfInBounds_toArray, List.set_cons_zero, List.set_cons_succ]
        refine wpAnyH_done (by kernel_rfl) ?_ _
        go_wp2
        go_end0
        exact ⟨rfl, fin _ w3 (unhide O3) (unhide F3)⟩
end Go.Proofs.YtfmbebofllgmoaaGreatDoor
namespace Go.Proofs.YtfmbebofllgmoaaGreatDoor
open Go.RowKit
attribute [local go_sem ↓] Go.wp_at_zero Go.wp_at_succ

theorem both_same {U wa : World} {B e s n j : Nat} {lv va : Value} {xs : List Value} (_ho : U.ownsRow B e s lv n xs) (hd : (∃ g cp, lv = .slice (some ⟨g, 0, none⟩) n cp ∧ va = .slice (some ⟨g, 0, none⟩) (n + j) cp ∧ n + j ≤ cp ∧ U.grownBy wa (some g)) ∨ (U.grownBy wa none ∧ ∀ q, own va q → U.heap.size ≤ q)) (q : Nat) (hq : q < U.heap.size) (hn : ¬ own lv q) : wa.heap[q]? = U.heap[q]? := by
  rcases hd with ⟨g, cp, hl, _, _, hg⟩ | ⟨hg, _⟩
  · exact hg.block q hq (fun e => hn (by rw [hl]; simp only [own, Value.ownBlock]; exact e.symm))
  · exact hg.block q hq (by simp)
theorem row_at {w : World} {B e s n c : Nat} {a : Option Addr} {xs : List Value} (h : w.ownsRow B e s (.slice a n c) n xs) (hn : 0 < n) : ∃ g, a = some ⟨g, 0, none⟩ ∧ g < w.heap.size ∧ (∀ k, k < n * s → ∃ v, w.cell? ⟨g, k, none⟩ = some v) ∧ ∀ k, w.frozen? ⟨g, k, none⟩ = false := by
  obtain ⟨h0, h1⟩ := h
  rcases h1 with ⟨hv, h2⟩ | ⟨g, cap, cur, hv, hB, hg, hc1, hc2, hc3, hc4⟩
  · omega
  · cases hv
    refine ⟨g, rfl, (Array.getElem?_eq_some_iff.1 hg).1, fun k hk => ?_, fun k => frozen_rowE hg k⟩
    have hlt : k < cur.size := by rw [hc3]; exact Nat.lt_of_lt_of_le hk (Nat.mul_le_mul_right s hc1)
    exact ⟨cur[k], (cell_of_row w g k cur e (0, 0) hg).trans (Array.getElem?_eq_getElem hlt)⟩
theorem row_set {w : World} {B e s n c g k : Nat} {xs : List Value} (h : w.ownsRow B e s (.slice (some ⟨g, 0, none⟩) n c) n xs) (z : Value) (_hk : k < n * s) : (w.setCell ⟨g, k, none⟩ z).ownsRow B e s (.slice (some ⟨g, 0, none⟩) n c) n (xs.set k z) := by
  obtain ⟨h0, h1⟩ := h
  rcases h1 with ⟨hv, h2⟩ | ⟨g', cap, cur, hv, hB, hg, hc1, hc2, hc3, hc4⟩
  · cases hv
  · cases hv
    refine ⟨by simpa using h0, .inr ⟨g, c, cur.setIfInBounds k z, rfl, hB, setCell_row w g k cur e _ hg, hc1, hc2, by simpa using hc3, ?_⟩⟩
    rw [Array.toList_setIfInBounds, List.take_set, hc4]
theorem reps_one (us : List Value) : reps 1 us = us := by unfold reps; simp
theorem drop_cons {l : List Value} {k : Nat} (h : k < l.length) : ∃ d, l.drop k = d :: l.drop (k + 1) := ⟨_, List.drop_eq_getElem_cons h⟩
theorem set_at (p : List Value) {k i : Nat} (hk : p.length = k) (q : List Value) (z : Value) : (p ++ q).set (k + i) z = p ++ q.set i z := by
  rw [List.set_append_right _ _ (by omega), show k + i - p.length = i by omega]
theorem set_at0 (p : List Value) {k : Nat} (hk : p.length = k) (q : List Value) (z : Value) : (p ++ q).set k z = p ++ q.set 0 z := set_at p hk (i := 0) q z
theorem unit_set4 {w : World} {B e n c g j : Nat} {xs : List Value} {u0 u1 u2 u3 : Value} (h : w.ownsRow B e 4 (.slice (some ⟨g, 0, none⟩) n c) n (reps j [u0, u1, u2, u3] ++ xs.drop (j * 4))) (hj : j < n) (z0 z1 z2 z3 : Value) (e0 : z0 = u0 := by rfl) (e1 : z1 = u1 := by rfl) (e2 : z2 = u2 := by rfl) (e3 : z3 = u3 := by rfl) :
    ((((w.setCell ⟨g, j * 4, none⟩ z0).setCell ⟨g, j * 4 + 1, none⟩ z1).setCell ⟨g, j * 4 + 2, none⟩ z2).setCell ⟨g, j * 4 + 3, none⟩ z3).ownsRow B e 4 (.slice (some ⟨g, 0, none⟩) n c) n (reps (j + 1) [u0, u1, u2, u3] ++ xs.drop ((j + 1) * 4)) := by
  subst e0 e1 e2 e3
  have hr := row_set (row_set (row_set (row_set h z0 (k := j * 4) (by omega)) z1 (k := j * 4 + 1) (by omega)) z2 (k := j * 4 + 2) (by omega)) z3 (k := j * 4 + 3) (by omega)
  have hl := h.1
  rw [List.length_append, reps_length, List.length_drop] at hl
  simp only [List.length_cons, List.length_nil] at hl
  have hp : (reps j [z0, z1, z2, z3]).length = j * 4 := reps_length _ _
  obtain ⟨d0, x0⟩ := drop_cons (l := xs) (k := j * 4) (by omega)
  obtain ⟨d1, x1⟩ := drop_cons (l := xs) (k := j * 4 + 1) (by omega)
  obtain ⟨d2, x2⟩ := drop_cons (l := xs) (k := j * 4 + 1 + 1) (by omega)
  obtain ⟨d3, x3⟩ := drop_cons (l := xs) (k := j * 4 + 1 + 1 + 1) (by omega)
  rw [x0, x1, x2, x3] at hr
  rw [set_at0 _ hp, set_at _ hp, set_at _ hp, set_at _ hp] at hr
  rw [← reps_append, reps_one, List.append_assoc, show (j + 1) * 4 = j * 4 + 1 + 1 + 1 + 1 by omega]
  exact hr
theorem elem111 : Elem 63 111 5 104 := elem_of _ _ _ _ (.agg #[.slice none 0 0, .slice none 0 0, .slice none 0 0, .slice none 0 0, .int .i64 0]) Tryz.underlying63 (by kernel_rfl) rfl
/-- What comes of keeping a list of kind N. -/
def KeptN (w w' : World) (B bb : Nat) (n : Int) (vI vE vN : Value) (LI LE LN : List Ent) (K : Nat → Prop) (lv : Value) : Prop :=
  ∃ vX' e K', BookK w' B bb n vI vE vX' LI LE (LN ++ [e]) K' ∧ (∀ q, K' q → K q ∨ own lv q ∨ w.heap.size ≤ q) ∧ (∀ q, own vX' q → own vN q ∨ w.heap.size ≤ q) ∧ Fr (fun q => q = bb ∨ own vN q ∨ own lv q ∨ w.heap.size ≤ q) w w' (fun q => q = bb ∨ own vN q ∨ own lv q ∨ w.heap.size ≤ q)
end Go.Proofs.YtfmbebofllgmoaaGreatDoor
namespace Go.Proofs.YtfmbebofllgmoaaGreatDoor
open Go.RowKit
attribute [local go_sem ↓] Go.wp_at_zero Go.wp_at_succ

theorem pair_apart {α : Type} {R : α → α → Prop} : ∀ {l : List α}, l.Pairwise R → ∀ {i : Nat} {x y : α}, l[i]? = some x → y ∈ l.take i → R y x
  | a :: r, h, 0, x, y, hx, hy => by simp at hy
  | a :: r, h, i + 1, x, y, hx, hy => by
    rw [List.take_succ_cons, List.mem_cons] at hy
    rw [List.getElem?_cons_succ] at hx
    rw [List.pairwise_cons] at h
    rcases hy with rfl | hy
    · exact h.1 x (List.mem_of_getElem? hx)
    · exact pair_apart h.2 hx hy
/-- The Book where the files of the first inputs are kept. -/
structure FilesK (w wr : World) (B bb : Nat) (vI vE vN : Value) (LI LE LN : List Ent) (K : Nat → Prop) (ps : List (Inp × Value)) (j : Nat) (n' : Int) (vI' : Value) (LI' : List Ent) (K' : Nat → Prop) : Prop where
  bk : BookK wr B bb n' vI' vE vN LI' LE LN K'
  len : LI'.length = LI.length + j
  k : ∀ q, K' q → K q ∨ (∃ p, p ∈ ps.take j ∧ own p.2 q) ∨ w.heap.size ≤ q
  v : ∀ q, own vI' q → own vI q ∨ w.heap.size ≤ q
  fr : Fr (fun q => q = bb ∨ own vI q ∨ (∃ p, p ∈ ps.take j ∧ own p.2 q) ∨ w.heap.size ≤ q) w wr (fun q => q = bb ∨ own vI q ∨ (∃ p, p ∈ ps.take j ∧ own p.2 q) ∨ w.heap.size ≤ q)
theorem FilesK.step {w wr w' : World} {B bb : Nat} {vI vE vN : Value} {LI LE LN : List Ent} {K : Nat → Prop} {ps : List (Inp × Value)} {j : Nat} {n' n2 : Int} {vI' : Value} {LI' : List Ent} {K' : Nat → Prop} {x : Inp} {fv : Value} (h : FilesK w wr B bb vI vE vN LI LE LN K ps j n' vI' LI' K') (hp : ps[j]? = some (x, fv)) (hk : KeptI wr w' B bb n2 vI' vE vN LI' LE LN K' fv) : ∃ vI2 LI2 K2, FilesK w w' B bb vI vE vN LI LE LN K ps (j + 1) n2 vI2 LI2 K2 := by
  obtain ⟨vX, e, K2, hb, hk2, hv2, hf2⟩ := hk
  have ht : ps.take (j + 1) = ps.take j ++ [(x, fv)] := by rw [List.take_add_one, hp]; rfl
  have hsz := h.fr.size
  have up : ∀ {q}, (∃ p, p ∈ ps.take j ∧ own p.2 q) → ∃ p, p ∈ ps.take (j + 1) ∧ own p.2 q := fun ⟨p, hp, hq⟩ => ⟨p, by rw [ht]; exact List.mem_append_left _ hp, hq⟩
  have now : ∀ {q}, own fv q → ∃ p, p ∈ ps.take (j + 1) ∧ own p.2 q := fun hq => ⟨(x, fv), by rw [ht]; simp, hq⟩
  refine ⟨vX, LI' ++ [e], K2, hb, by rw [List.length_append, h.len]; rfl, fun q hq => ?_, fun q hq => ?_, ?_⟩
  · rcases hk2 q hq with h1 | h1 | h1
    · rcases h.k q h1 with h3 | h3 | h3
      · exact .inl h3
      · exact .inr (.inl (up h3))
      · exact .inr (.inr h3)
    · exact .inr (.inl (now h1))
    · exact .inr (.inr (by omega))
  · rcases hv2 q hq with h1 | h1
    · exact h.v q h1
    · exact .inr (by omega)
  · refine (h.fr.widen (fun q hq => ?_)).trans (hf2.widen (fun q hq => ?_))
    · rcases hq with h1 | h1 | h1 | h1
      · exact .inl h1
      · exact .inr (.inl h1)
      · exact .inr (.inr (.inl (up h1)))
      · exact .inr (.inr (.inr h1))
    · rcases hq with h1 | h1 | h1 | h1
      · exact .inl h1
      · rcases h.v q h1 with h3 | h3
        · exact .inr (.inl h3)
        · exact .inr (.inr (.inr h3))
      · exact .inr (.inr (.inl (now h1)))
      · exact .inr (.inr (.inr (by omega)))
/-- What comes of keepInputs. -/
def InsKept (w w' : World) (B bb : Nat) (vE : Value) (LI LE LN : List Ent) (k : Nat) : Prop :=
  ∃ n' vI' vN' LI' LN' K', BookK w' B bb n' vI' vE vN' LI' LE LN' K' ∧ LI'.length = LI.length + k ∧ LN'.length = LN.length + 1 ∧ Below B w w'
theorem FilesK.close {w w2 w' : World} {B bb : Nat} {vI vE vN : Value} {LI LE LN : List Ent} {K : Nat → Prop} {ps : List (Inp × Value)} {j : Nat} {n' n2 : Int} {vI' lv : Value} {LI' : List Ent} {K' : Nat → Prop} (hb0 : BookK w B bb n' vI vE vN LI LE LN K) (hbb : B ≤ bb) (hBw : B ≤ w.heap.size) (hi : InsAt w B lv ps) {n0 : Int} (h : FilesK w w2 B bb vI vE vN LI LE LN K ps j n0 vI' LI' K') (hk : KeptN w2 w' B bb n2 vI' vE vN LI' LE LN K' lv) : InsKept w w' B bb vE LI LE LN j := by
  obtain ⟨vX, e, K2, hb, _, _, hf2⟩ := hk
  have hsz := h.fr.size
  refine ⟨_, _, _, _, _, _, hb, h.len, by simp, ?_⟩
  have b1 : Below B w w2 := h.fr.below (fun q hq => by
    rcases hq with h1 | h1 | ⟨p, hp, h1⟩ | h1
    · omega
    · exact (World.ownsRow.lt hb0.bk.rI q h1).1
    · exact (World.ownsRow.lt (hi.fl p (List.mem_of_mem_take hp)) q h1).1
    · omega) hBw
  exact b1.trans (hf2.below (fun q hq => by
    rcases hq with h1 | h1 | h1 | h1
    · omega
    · exact (World.ownsRow.lt hb0.bk.rN q h1).1
    · exact (World.ownsRow.lt hi.row q h1).1
    · omega) (by omega))
set_option maxHeartbeats 4000000 in
set_option maxRecDepth 20000 in
theorem keepInputs_nn {w : World} {B bb : Nat} {n0 : Int} {vI vE vN : Value} {LI LE LN : List Ent} {K : Nat → Prop} (h : BookK w B bb n0 vI vE vN LI LE LN K) (hbb : B ≤ bb) (hBw0 : B ≤ w.heap.size) {lv : Value} {ps : List (Inp × Value)} {nn : Nat} (hn : ps.length = nn) (hi : InsAt w B lv ps) (hk : ∀ q, inS lv ps q → ¬ K q) (hl : nn ≤ 100000000) (hfl : ∀ p, p ∈ ps → p.1.2.2.2.length ≤ 100) (hL : LI.length + nn ≤ 900000000000) (hLN : LN.length ≤ 900000000000) :
    Calls Tryz.prog 45 #[.pointer (some ⟨bb, 0, none⟩), lv] w fun e w' => e = .returned (.tuple #[]) ∧ InsKept w w' B bb vE LI LE LN nn := by
  have hrow := hi.row
  rw [hn] at hrow
  obtain ⟨a, c, rfl⟩ := row_shape hrow
  obtain ⟨aX, cX, rfl⟩ := row_shape h.bk.rN
  have hgt : ∀ (wr : World) j n' vI' LI' K', FilesK w wr B bb vI vE (.slice aX LN.length cX) LI LE LN K ps j n' vI' LI' K' → ∀ q, q < w.heap.size → ¬ (∃ cur, w.heap[q]? = some (.cells cur 65 (0, 0))) → ¬ (∃ cur, w.heap[q]? = some (.cells cur 105 (0, 0))) → ¬ (∃ p, p ∈ ps.take j ∧ own p.2 q) → wr.heap[q]? = w.heap[q]? := fun wr j n' vI' LI' K' hfk q hq h1 h2 h3 => hfk.fr.same q hq (fun ht => by
      rcases ht with e | e | e | e
      · exact h1 ⟨_, by rw [e]; exact h.bk.blk⟩
      · exact h2 (row_d h.bk.rI e)
      · exact h3 e
      · omega)
  have hrw : ∀ (wr : World) j n' vI' LI' K', FilesK w wr B bb vI vE (.slice aX LN.length cX) LI LE LN K ps j n' vI' LI' K' → ∀ q, own (.slice a nn c) q → wr.heap[q]? = w.heap[q]? := fun wr j n' vI' LI' K' hfk q hq => by
    obtain ⟨cur, hcur⟩ := row_d hrow hq
    refine hgt wr j n' vI' LI' K' hfk q (World.ownsRow.lt hrow q hq).2 (fun ⟨_, e⟩ => absurd (ty_one e hcur) (by decide)) (fun ⟨_, e⟩ => absurd (ty_one e hcur) (by decide)) (fun ⟨p, hp', hq'⟩ => ?_)
    exact hi.sep p (List.mem_of_mem_take hp') q hq' hq
  have key : ∀ (wr : World) j n' vI' LI' K', j < nn → FilesK w wr B bb vI vE (.slice aX LN.length cX) LI LE LN K ps j n' vI' LI' K' → ∃ g fa fn fc x, a = some ⟨g, 0, none⟩ ∧ g < wr.heap.size ∧ ps[j]? = some (x, .slice fa fn fc) ∧ wr.cell? ⟨g, j * 4 + 3, none⟩ = some (.slice fa fn fc) ∧ Calls Tryz.prog 79 #[.pointer (some ⟨bb, 0, none⟩), .slice fa fn fc] wr fun e w' => e = .returned (.tuple #[]) ∧ KeptI wr w' B bb (wrap64 (n' + 1)) vI' vE (.slice aX LN.length cX) LI' LE LN K' (.slice fa fn fc) := fun wr j n' vI' LI' K' hj hfk => by
    obtain ⟨g, cc, x, fv, hv, hgl, hp, _, _, _, h3, hof⟩ := hi.cells (i := j) (by omega)
    obtain ⟨fa, fn, fc, rfl⟩ := ownI_shape hof
    injection hv with hv hv2 hv3
    have hmem : (x, Value.slice fa fn fc) ∈ ps := List.mem_of_getElem? hp
    have hown : ∀ q, own (.slice fa fn fc) q → wr.heap[q]? = w.heap[q]? := fun q hq => by
      obtain ⟨cur, hcur⟩ := row_d hof hq
      refine hgt wr j n' vI' LI' K' hfk q (World.ownsRow.lt hof q hq).2 (fun ⟨_, e⟩ => absurd (ty_one e hcur) (by decide)) (fun ⟨_, e⟩ => absurd (ty_one e hcur) (by decide)) (fun ⟨p, hp', hq'⟩ => ?_)
      exact pair_apart hi.dis hp hp' q hq' hq
    have hgg : wr.heap[g]? = w.heap[g]? := hrw wr j n' vI' LI' K' hfk g (by rw [hv]; rfl)
    have hofr : OwnI wr B (.slice fa fn fc) (zs x.2.2.2) := ownsRow_of_block hof hown
    have hcall := keepInts_any hfk.bk (Nat.le_trans hBw0 hfk.fr.size) hofr (fun q hq hkq => by
      rcases hfk.k q hkq with e | ⟨p, hp', hq'⟩ | e
      · exact hk q (.inr ⟨_, hmem, hq⟩) e
      · exact pair_apart hi.dis hp hp' q hq' hq
      · have := (World.ownsRow.lt hof q hq).2; omega) (by rw [zs_len]; exact Nat.le_trans (hfl _ hmem) (by omega)) (by have := hfk.len; omega)
    exact ⟨g, fa, fn, fc, x, hv, Nat.lt_of_lt_of_le hgl hfk.fr.size, hp, (cellOf_heap hgg).trans h3, hcall⟩
  have start : FilesK w w B bb vI vE (.slice aX LN.length cX) LI LE LN K ps 0 n0 vI LI K := ⟨h, rfl, fun _ hq => .inl hq, fun _ hq => .inl hq, Fr.refl _ _⟩
  have KEY := hide key
  have ST := hide start
  have H0 := hide h
  have HI := hide hi
  have HK0 := hide hk
  have HRW := hide hrw
  have HROW := hide hrow
  have HN := hide hn
  clear key start h hi hk hfl hgt hrw hrow hn
  go_enter Tryz.func45, Tryz.ntmps45
  go_wp2
  go_loopw [4] (fun i wr => ∃ j : Nat, j ≤ nn ∧ i = .int .i64 j ∧ ∃ n' vI' LI' K', FilesK w wr B bb vI vE (.slice aX LN.length cX) LI LE LN K ps j n' vI' LI' K') (fun i _ => nn - (intOf i).toNat)
  case atStart => exact ⟨0, Nat.zero_le _, rfl, _, _, _, _, unhide ST⟩
  case round =>
    obtain ⟨j, hj, rfl, nf, vIf, LIf, Kf, hfk⟩ := hrel
    by_cases hlt : j < nn
    · obtain ⟨g, fa, fn, fc, x, rfl, hgl, hp, hc3, hcall⟩ := unhide KEY wr j nf vIf LIf Kf hlt hfk
      have HC := hide hcall
      have HFK := hide hfk
      have hk0 : (0 : Int) ≤ (j : Int) := by omega
      have hk1 : (j : Int) < (nn : Int) := by omega
      clear hcall hfk KEY
      go_wp2_with fail
      go_at_call 79
      refine (unhide HC).mono ?_
      rintro e w3 ⟨rfl, hkept⟩
      obtain ⟨vI2, LI2, K2, h2⟩ := (unhide HFK).step hp hkept
      clear HC hkept
      have H2 := hide h2
      clear h2
      go_wp2
      go_roundw
      case rel => exact ⟨j + 1, by omega, by go_num, _, _, _, _, unhide H2⟩
      case measure => simp [intOf]; omega
    · have hjl : j = nn := by omega
      subst hjl
      rename Nat => nn
      have hk1 : ¬ (nn : Int) < (nn : Int) := by omega
      rename World => w2
      have close : ∀ w', KeptN w2 w' B bb (wrap64 (nf + 1)) vIf vE (.slice aX LN.length cX) LIf LE LN Kf (.slice a nn c) → InsKept w w' B bb vE LI LE LN nn := fun w' h => hfk.close (unhide H0) hbb hBw0 (unhide HI) h
      have HB := hide hfk.bk
      have ho2 : w2.ownsRow B 49 4 (.slice a nn c) nn (flatP ps) := ownsRow_of_block (unhide HROW) (fun q hq => unhide HRW w2 nn nf vIf LIf Kf hfk q hq)
      have HO := hide ho2
      have hnb : ¬ own (.slice a nn c) bb := own_ty (unhide HROW) (unhide H0).bk.blk (by decide)
      have hkk : ∀ q, own (.slice a nn c) q → ¬ Kf q := fun q hq hkq => by
        rcases hfk.k q hkq with e | ⟨p, hp', hq'⟩ | e
        · exact unhide HK0 q (.inl hq) e
        · exact (unhide HI).sep p (List.mem_of_mem_take hp') q hq' hq
        · have := (World.ownsRow.lt (unhide HROW) q hq).2; omega
      have HK := hide hkk
      have hBw : B ≤ w2.heap.size := Nat.le_trans hBw0 hfk.fr.size
      have CLOSE := hide close
      clear hfk ho2 hkk close KEY ST H0 HI HK0 HRW HROW
      have HNB := hide hnb
      clear hnb
      have y0 := setCell_row w2 bb 0 _ 65 (.int .i64 (wrap64 (nf + 1))) (unhide HB).bk.blk
      have cb := fun j => cell_of_row w2 _ j _ 65 (0, 0) (unhide HB).bk.blk
      have zb := fun j => frozen_rowE (unhide HB).bk.blk j
      have hbw : bb < w2.heap.size := (Array.getElem?_eq_some_iff.1 (unhide HB).bk.blk).1
      have Y0 := hide y0
      clear y0
      go_wp2
      obtain ⟨m, hm⟩ : ∃ m, wrap64 (1000 + wrap64 (nf + 1)) = m := ⟨_, rfl⟩
      rw [hm]
      have z1 : (w2.setCell ⟨bb, 0, none⟩ (.int .i64 (wrap64 (nf + 1)))).heap.size = w2.heap.size := by simp [World.setCell]
      have hf1 : Fr (fun q => q = bb) w2 ((w2.setCell ⟨bb, 0, none⟩ (.int .i64 (wrap64 (nf + 1)))).alloc (.cells #[.int .i64 0, .int .i64 0, .int .i64 m, .slice none 0 0] 49)) (fun q => q = bb) := ((Fr.refl (fun q => q = bb) w2).setCell _ _ (.inl rfl)).alloc _
      have y1 : ((w2.setCell ⟨bb, 0, none⟩ (.int .i64 (wrap64 (nf + 1)))).alloc (.cells #[.int .i64 0, .int .i64 0, .int .i64 m, .slice none 0 0] 49)).heap[bb]? = some (.cells #[.int .i64 (wrap64 (nf + 1)), vIf, vE, .slice aX LN.length cX] 65) := (Below.heap_alloc _ _ _ (by rw [z1]; exact hbw)).trans (unhide Y0)
      have p1 : ((w2.setCell ⟨bb, 0, none⟩ (.int .i64 (wrap64 (nf + 1)))).alloc (.cells #[.int .i64 0, .int .i64 0, .int .i64 m, .slice none 0 0] 49)).heap[w2.heap.size]? = some (.cells #[.int .i64 0, .int .i64 0, .int .i64 m, .slice none 0 0] 49) := by
        have h := heap_alloc_new (w2.setCell ⟨bb, 0, none⟩ (.int .i64 (wrap64 (nf + 1)))) (.cells #[.int .i64 0, .int .i64 0, .int .i64 m, .slice none 0 0] 49)
        rwa [z1] at h
      have z2 : w2.heap.size < ((w2.setCell ⟨bb, 0, none⟩ (.int .i64 (wrap64 (nf + 1)))).alloc (.cells #[.int .i64 0, .int .i64 0, .int .i64 m, .slice none 0 0] 49)).heap.size := (Array.getElem?_eq_some_iff.1 p1).1
      have hnP : ¬ own (.slice a nn c) w2.heap.size := fun hq => by have := (World.ownsRow.lt (unhide HO) _ hq).2; omega
      have o1 : ((w2.setCell ⟨bb, 0, none⟩ (.int .i64 (wrap64 (nf + 1)))).alloc (.cells #[.int .i64 0, .int .i64 0, .int .i64 m, .slice none 0 0] 49)).ownsRow B 49 4 (.slice a nn c) nn (reps 0 [.int .i64 0, .int .i64 0, .int .i64 m, .slice none 0 0] ++ (flatP ps).drop (0 * 4)) := by
        rw [Nat.zero_mul, List.drop_zero]
        exact ownsRow_of_block (unhide HO) (fun q hq => hf1.same q (World.ownsRow.lt (unhide HO) q hq).2 (fun e => unhide HNB (e ▸ hq)))
      generalize hw1 : (w2.setCell ⟨bb, 0, none⟩ (.int .i64 (wrap64 (nf + 1)))).alloc (.cells #[.int .i64 0, .int .i64 0, .int .i64 m, .slice none 0 0] 49) = w1 at *
      have HNP := hide hnP
      have O1 := hide o1
      have Y1 := hide y1
      have HF1 := hide hf1
      have P1 := hide p1
      have Z2 := hide z2
      clear o1 y1 hf1 p1 hw1 hm cb zb z1 z2 Y0 hnP
      go_loopw [7] (fun i wr => ∃ j : Nat, j ≤ nn ∧ i = .int .i64 j ∧ Hid (wr.ownsRow B 49 4 (.slice a nn c) nn (reps j [.int .i64 0, .int .i64 0, .int .i64 m, .slice none 0 0] ++ (flatP ps).drop (j * 4))) ∧ Fr (own (.slice a nn c)) w1 wr (own (.slice a nn c))) (fun i _ => nn - (intOf i).toNat)
      case atStart => exact ⟨0, Nat.zero_le _, rfl, O1, Fr.refl _ _⟩
      case round =>
        obtain ⟨j, hj, rfl, hoj, hfj⟩ := hrel
        have hpr := (hfj.same w2.heap.size (unhide Z2) (unhide HNP)).trans (unhide P1)
        have cP := fun i => cell_of_row wr _ i _ 49 (0, 0) hpr
        by_cases hlt : j < nn
        · obtain ⟨g, hg, hgl, hcell, hfz⟩ := row_at (unhide hoj) (by omega)
          subst hg
          obtain ⟨c0, k0⟩ := hcell (j * 4) (by omega)
          have f0 := hfz (j * 4)
          obtain ⟨c1, k1⟩ := hcell (j * 4 + 1) (by omega)
          have f1 := hfz (j * 4 + 1)
          obtain ⟨c2, k2⟩ := hcell (j * 4 + 2) (by omega)
          have f2 := hfz (j * 4 + 2)
          obtain ⟨c3, k3⟩ := hcell (j * 4 + 3) (by omega)
          have f3 := hfz (j * 4 + 3)
          have hon := unit_set4 (unhide hoj) hlt (.int .i64 0) (.int .i64 0) (.int .i64 m) (.slice none 0 0)
          have HN := hide hon
          have HFJ := hide hfj
          have hk0 : (0 : Int) ≤ (j : Int) := by omega
          have hk1 : (j : Int) < (nn : Int) := by omega
          have hgP' : ¬ w2.heap.size = g := fun e => unhide HNP (by rw [e]; rfl)
          clear hoj hon hfj hcell hfz hpr
          go_wp2
          go_roundw
          case rel =>
            refine ⟨j + 1, by omega, by go_num, HN, ?_⟩
            refine ((((unhide HFJ).setCell ⟨g, j * 4, none⟩ (.int .i64 0) (.inl rfl)).setCell ⟨g, j * 4 + 1, none⟩ (.int .i64 0) (.inl rfl)).setCell ⟨g, j * 4 + 2, none⟩ (.int .i64 m) (.inl rfl)).setCell ⟨g, j * 4 + 3, none⟩ (.slice none 0 0) (.inl rfl)
          case measure => simp [intOf]; omega
        · have hjl : j = nn := by omega
          subst hjl
          have hk1 : ¬ (j : Int) < (j : Int) := by omega
          have hoe : wr.ownsRow B 49 4 (.slice a j c) j (reps j [.int .i64 0, .int .i64 0, .int .i64 m, .slice none 0 0]) := by
            have h := unhide hoj
            rw [List.drop_eq_nil_of_le (Nat.le_of_eq (unhide HO).1), List.append_nil] at h
            exact h
          have hpl : w2.heap.size < wr.heap.size := (Array.getElem?_eq_some_iff.1 hpr).1
          have hPX : w2.heap.size ≠ wr.heap.size := by omega
          have hPX' : ¬ wr.heap.size = w2.heap.size := by omega
          have hrB : B ≤ wr.heap.size := by omega
          have C0n := heap_alloc_new wr (.cells #[.slice a j c, .slice none 0 0, .slice none 0 0, .slice none 0 0, .int .i64 m] 111)
          have v0o : ((wr.alloc (.cells #[.slice a j c, .slice none 0 0, .slice none 0 0, .slice none 0 0, .int .i64 m] 111)).alloc (.cells #[.int .i64 0, .int .i64 0, .int .i64 m, .slice none 0 0] 49)).ownsRow B 49 4 (.slice a j c) j (reps j [.int .i64 0, .int .i64 0, .int .i64 m, .slice none 0 0]) := World.ownsRow.alloc (World.ownsRow.alloc hoe _) _
          have v0x : ((wr.alloc (.cells #[.slice a j c, .slice none 0 0, .slice none 0 0, .slice none 0 0, .int .i64 m] 111)).alloc (.cells #[.int .i64 0, .int .i64 0, .int .i64 m, .slice none 0 0] 49)).heap[wr.heap.size]? = some (.cells #[.slice a j c, .slice none 0 0, .slice none 0 0, .slice none 0 0, .int .i64 m] 111) := (Below.heap_alloc _ _ _ (by simp)).trans C0n
          have v0p : ((wr.alloc (.cells #[.slice a j c, .slice none 0 0, .slice none 0 0, .slice none 0 0, .int .i64 m] 111)).alloc (.cells #[.int .i64 0, .int .i64 0, .int .i64 m, .slice none 0 0] 49)).heap[w2.heap.size]? = some (.cells #[.int .i64 0, .int .i64 0, .int .i64 m, .slice none 0 0] 49) := (Below.heap_alloc _ _ _ (by simp; omega)).trans ((Below.heap_alloc _ _ _ hpl).trans hpr)
          have v0n : ((wr.alloc (.cells #[.slice a j c, .slice none 0 0, .slice none 0 0, .slice none 0 0, .int .i64 m] 111)).alloc (.cells #[.int .i64 0, .int .i64 0, .int .i64 m, .slice none 0 0] 49)).heap[wr.heap.size + 1]? = some (.cells #[.int .i64 0, .int .i64 0, .int .i64 m, .slice none 0 0] 49) := by
            have h := heap_alloc_new (wr.alloc (.cells #[.slice a j c, .slice none 0 0, .slice none 0 0, .slice none 0 0, .int .i64 m] 111)) (.cells #[.int .i64 0, .int .i64 0, .int .i64 m, .slice none 0 0] 49)
            rwa [show (wr.alloc (.cells #[.slice a j c, .slice none 0 0, .slice none 0 0, .slice none 0 0, .int .i64 m] 111)).heap.size = wr.heap.size + 1 by simp] at h
          have hB0 : B ≤ ((wr.alloc (.cells #[.slice a j c, .slice none 0 0, .slice none 0 0, .slice none 0 0, .int .i64 m] 111)).alloc (.cells #[.int .i64 0, .int .i64 0, .int .i64 m, .slice none 0 0] 49)).heap.size := by simp; omega
          have V0O := hide v0o
          have V0X := hide v0x
          have V0P := hide v0p
          have V0N := hide v0n
          have HFJ := hide hfj
          clear hoj hoe hfj C0n v0o v0x v0n v0p hpr
          go_wp2_with (at_builtin; first | (refine wpList_both elemIn (by omega) (by omega) (B := B) (n := j) (m := 1) (xs := reps j [.int .i64 0, .int .i64 0, .int .i64 m, .slice none 0 0]) (news := [.int .i64 0, .int .i64 0, .int .i64 m, .slice none 0 0]) rfl (.tmp 49) (.tmp 51) rfl (ad := ⟨wr.heap.size + 1, 0, none⟩) (cap := 1) rfl rfl (unhide V0O) rfl (World.news_of_block (unhide V0N)) (by simp [Value.oneCell']) (by omega) (by omega) hB0 ?_; intro va wa sha ra da; obtain ⟨aa, ca, rfl⟩ := sha; have ra' : wa.ownsRow B 49 4 (.slice aa (j + 1) ca) (j + 1) (reps (j + 1) [.int .i64 0, .int .i64 0, .int .i64 m, .slice none 0 0]) := (by rw [← reps_append]; exact ra); have xa := (both_same (unhide V0O) da wr.heap.size (Array.getElem?_eq_some_iff.1 (unhide V0X)).1 (own_ty (unhide V0O) (unhide V0X) (by decide))).trans (unhide V0X); have kca := fun i => cell_of_row wa _ i _ 111 (0, 0) xa; have kza := fun i => frozen_rowE xa i; have pa := (both_same (unhide V0O) da w2.heap.size (Array.getElem?_eq_some_iff.1 (unhide V0P)).1 (unhide HNP)).trans (unhide V0P); have kpa := fun i => cell_of_row wa _ i _ 49 (0, 0) pa; have K1 := hide (keep_oneU (k := 1) (us := [.int .i64 0, .int .i64 0, .int .i64 m, .slice none 0 0]) (by simp) (by decide) (by omega) (unhide V0O) (unhide V0X) ra' da); have PP := hide pa; clear ra ra' da xa pa V0N; have V1O := hide (show ((wa.setCell ⟨wr.heap.size, 1, none⟩ (.slice aa (j + 1) ca)).alloc (.cells #[.int .i64 0, .int .i64 0, .int .i64 m, .slice none 0 0, .int .i64 0, .int .i64 0, .int .i64 m, .slice none 0 0] 49)).ownsRow B 49 4 (.slice a j c) j (reps j [.int .i64 0, .int .i64 0, .int .i64 m, .slice none 0 0]) from World.ownsRow.alloc (unhide K1).1 _); have V1X := hide (show ((wa.setCell ⟨wr.heap.size, 1, none⟩ (.slice aa (j + 1) ca)).alloc (.cells #[.int .i64 0, .int .i64 0, .int .i64 m, .slice none 0 0, .int .i64 0, .int .i64 0, .int .i64 m, .slice none 0 0] 49)).heap[wr.heap.size]? = some (.cells #[.slice a j c, .slice aa (j + 1) ca, .slice none 0 0, .slice none 0 0, .int .i64 m] 111) from (Below.heap_alloc _ _ _ (Array.getElem?_eq_some_iff.1 (unhide K1).2.1).1).trans (unhide K1).2.1); have V1P := hide (show ((wa.setCell ⟨wr.heap.size, 1, none⟩ (.slice aa (j + 1) ca)).alloc (.cells #[.int .i64 0, .int .i64 0, .int .i64 m, .slice none 0 0, .int .i64 0, .int .i64 0, .int .i64 m, .slice none 0 0] 49)).heap[w2.heap.size]? = some (.cells #[.int .i64 0, .int .i64 0, .int .i64 m, .slice none 0 0] 49) from (Below.heap_alloc _ _ _ (by simp [World.setCell]; exact (Array.getElem?_eq_some_iff.1 (unhide PP)).1)).trans ((Below.heap_setCell _ _ _ _ hPX).trans (unhide PP))); have V1N := hide (show ((wa.setCell ⟨wr.heap.size, 1, none⟩ (.slice aa (j + 1) ca)).alloc (.cells #[.int .i64 0, .int .i64 0, .int .i64 m, .slice none 0 0, .int .i64 0, .int .i64 0, .int .i64 m, .slice none 0 0] 49)).heap[wa.heap.size]? = some (.cells #[.int .i64 0, .int .i64 0, .int .i64 m, .slice none 0 0, .int .i64 0, .int .i64 0, .int .i64 m, .slice none 0 0] 49) from (by have h := heap_alloc_new (wa.setCell ⟨wr.heap.size, 1, none⟩ (.slice aa (j + 1) ca)) (.cells #[.int .i64 0, .int .i64 0, .int .i64 m, .slice none 0 0, .int .i64 0, .int .i64 0, .int .i64 m, .slice none 0 0] 49); rwa [show (wa.setCell ⟨wr.heap.size, 1, none⟩ (.slice aa (j + 1) ca)).heap.size = wa.heap.size by simp [World.setCell]] at h)); have hB1 : B ≤ ((wa.setCell ⟨wr.heap.size, 1, none⟩ (.slice aa (j + 1) ca)).alloc (.cells #[.int .i64 0, .int .i64 0, .int .i64 m, .slice none 0 0, .int .i64 0, .int .i64 0, .int .i64 m, .slice none 0 0] 49)).heap.size := (by have h := (unhide K1).2.2.2.2.1.size; have h0 := hB0; simp at h h0 ⊢; omega); clear PP) | (refine wpList_both elemIn (by omega) (by omega) (B := B) (n := j) (m := 2) (xs := reps j [.int .i64 0, .int .i64 0, .int .i64 m, .slice none 0 0]) (news := [.int .i64 0, .int .i64 0, .int .i64 m, .slice none 0 0, .int .i64 0, .int .i64 0, .int .i64 m, .slice none 0 0]) rfl (.tmp 54) (.tmp 57) rfl (ad := ⟨wa.heap.size, 0, none⟩) (cap := 2) rfl rfl (unhide V1O) rfl (World.news_of_block (unhide V1N)) (by simp [Value.oneCell']) (by omega) (by omega) hB1 ?_; intro va wb sha ra da; obtain ⟨ab, cb, rfl⟩ := sha; have ra' : wb.ownsRow B 49 4 (.slice ab (j + 2) cb) (j + 2) (reps (j + 2) [.int .i64 0, .int .i64 0, .int .i64 m, .slice none 0 0]) := (by rw [← reps_append]; exact ra); have xa := (both_same (unhide V1O) da wr.heap.size (Array.getElem?_eq_some_iff.1 (unhide V1X)).1 (own_ty (unhide V1O) (unhide V1X) (by decide))).trans (unhide V1X); have kcb := fun i => cell_of_row wb _ i _ 111 (0, 0) xa; have kzb := fun i => frozen_rowE xa i; have pa := (both_same (unhide V1O) da w2.heap.size (Array.getElem?_eq_some_iff.1 (unhide V1P)).1 (unhide HNP)).trans (unhide V1P); have kpb := fun i => cell_of_row wb _ i _ 49 (0, 0) pa; have K2 := hide (keep_oneU (k := 2) (us := [.int .i64 0, .int .i64 0, .int .i64 m, .slice none 0 0]) (by simp) (by decide) (by omega) (unhide V1O) (unhide V1X) ra' da); have PP := hide pa; clear ra ra' da xa pa V1N; have V2O := hide (show ((wb.setCell ⟨wr.heap.size, 2, none⟩ (.slice ab (j + 2) cb)).alloc (.cells #[.int .i64 0, .int .i64 0, .int .i64 m, .slice none 0 0, .int .i64 0, .int .i64 0, .int .i64 m, .slice none 0 0, .int .i64 0, .int .i64 0, .int .i64 m, .slice none 0 0] 49)).ownsRow B 49 4 (.slice a j c) j (reps j [.int .i64 0, .int .i64 0, .int .i64 m, .slice none 0 0]) from World.ownsRow.alloc (unhide K2).1 _); have V2X := hide (show ((wb.setCell ⟨wr.heap.size, 2, none⟩ (.slice ab (j + 2) cb)).alloc (.cells #[.int .i64 0, .int .i64 0, .int .i64 m, .slice none 0 0, .int .i64 0, .int .i64 0, .int .i64 m, .slice none 0 0, .int .i64 0, .int .i64 0, .int .i64 m, .slice none 0 0] 49)).heap[wr.heap.size]? = some (.cells #[.slice a j c, .slice aa (j + 1) ca, .slice ab (j + 2) cb, .slice none 0 0, .int .i64 m] 111) from (Below.heap_alloc _ _ _ (Array.getElem?_eq_some_iff.1 (unhide K2).2.1).1).trans (unhide K2).2.1); have V2P := hide (show ((wb.setCell ⟨wr.heap.size, 2, none⟩ (.slice ab (j + 2) cb)).alloc (.cells #[.int .i64 0, .int .i64 0, .int .i64 m, .slice none 0 0, .int .i64 0, .int .i64 0, .int .i64 m, .slice none 0 0, .int .i64 0, .int .i64 0, .int .i64 m, .slice none 0 0] 49)).heap[w2.heap.size]? = some (.cells #[.int .i64 0, .int .i64 0, .int .i64 m, .slice none 0 0] 49) from (Below.heap_alloc _ _ _ (by simp [World.setCell]; exact (Array.getElem?_eq_some_iff.1 (unhide PP)).1)).trans ((Below.heap_setCell _ _ _ _ hPX).trans (unhide PP))); have V2N := hide (show ((wb.setCell ⟨wr.heap.size, 2, none⟩ (.slice ab (j + 2) cb)).alloc (.cells #[.int .i64 0, .int .i64 0, .int .i64 m, .slice none 0 0, .int .i64 0, .int .i64 0, .int .i64 m, .slice none 0 0, .int .i64 0, .int .i64 0, .int .i64 m, .slice none 0 0] 49)).heap[wb.heap.size]? = some (.cells #[.int .i64 0, .int .i64 0, .int .i64 m, .slice none 0 0, .int .i64 0, .int .i64 0, .int .i64 m, .slice none 0 0, .int .i64 0, .int .i64 0, .int .i64 m, .slice none 0 0] 49) from (by have h := heap_alloc_new (wb.setCell ⟨wr.heap.size, 2, none⟩ (.slice ab (j + 2) cb)) (.cells #[.int .i64 0, .int .i64 0, .int .i64 m, .slice none 0 0, .int .i64 0, .int .i64 0, .int .i64 m, .slice none 0 0, .int .i64 0, .int .i64 0, .int .i64 m, .slice none 0 0] 49); rwa [show (wb.setCell ⟨wr.heap.size, 2, none⟩ (.slice ab (j + 2) cb)).heap.size = wb.heap.size by simp [World.setCell]] at h)); have hB2 : B ≤ ((wb.setCell ⟨wr.heap.size, 2, none⟩ (.slice ab (j + 2) cb)).alloc (.cells #[.int .i64 0, .int .i64 0, .int .i64 m, .slice none 0 0, .int .i64 0, .int .i64 0, .int .i64 m, .slice none 0 0, .int .i64 0, .int .i64 0, .int .i64 m, .slice none 0 0] 49)).heap.size := (by have h := (unhide K2).2.2.2.2.1.size; have h0 := hB1; simp at h h0 ⊢; omega); clear PP) | (refine wpList_both elemIn (by omega) (by omega) (B := B) (n := j) (m := 3) (xs := reps j [.int .i64 0, .int .i64 0, .int .i64 m, .slice none 0 0]) (news := [.int .i64 0, .int .i64 0, .int .i64 m, .slice none 0 0, .int .i64 0, .int .i64 0, .int .i64 m, .slice none 0 0, .int .i64 0, .int .i64 0, .int .i64 m, .slice none 0 0]) rfl (.tmp 60) (.tmp 64) rfl (ad := ⟨wb.heap.size, 0, none⟩) (cap := 3) rfl rfl (unhide V2O) rfl (World.news_of_block (unhide V2N)) (by simp [Value.oneCell']) (by omega) (by omega) hB2 ?_; intro va wc sha ra da; obtain ⟨ac, cc, rfl⟩ := sha; have ra' : wc.ownsRow B 49 4 (.slice ac (j + 3) cc) (j + 3) (reps (j + 3) [.int .i64 0, .int .i64 0, .int .i64 m, .slice none 0 0]) := (by rw [← reps_append]; exact ra); have xa := (both_same (unhide V2O) da wr.heap.size (Array.getElem?_eq_some_iff.1 (unhide V2X)).1 (own_ty (unhide V2O) (unhide V2X) (by decide))).trans (unhide V2X); have kcc := fun i => cell_of_row wc _ i _ 111 (0, 0) xa; have kzc := fun i => frozen_rowE xa i; have pa := (both_same (unhide V2O) da w2.heap.size (Array.getElem?_eq_some_iff.1 (unhide V2P)).1 (unhide HNP)).trans (unhide V2P); have kpc := fun i => cell_of_row wc _ i _ 49 (0, 0) pa; have K3 := hide (keep_oneU (k := 3) (us := [.int .i64 0, .int .i64 0, .int .i64 m, .slice none 0 0]) (by simp) (by decide) (by omega) (unhide V2O) (unhide V2X) ra' da); have PP := hide pa; clear ra ra' da xa pa V2N; clear PP))
          have hXB : w2.heap.size ≤ wr.heap.size := by omega
          have f1 : Fr (fun q => own (.slice a j c) q ∨ q = wr.heap.size) w1 (wc.setCell ⟨wr.heap.size, 3, none⟩ (.slice ac (j + 3) cc)) (fun q => own (.slice a j c) q ∨ q = wr.heap.size) :=
            ((unhide HFJ).widen (fun _ h => .inl h)).trans ((((Fr.refl _ wr).alloc _).alloc _).trans ((unhide K1).2.2.2.2.1.trans (((Fr.refl _ _).alloc _).trans ((unhide K2).2.2.2.2.1.trans (((Fr.refl _ _).alloc _).trans (unhide K3).2.2.2.2.1)))))
          have hbl : bb < w1.heap.size := (Array.getElem?_eq_some_iff.1 (unhide Y1)).1
          have hbd : (wc.setCell ⟨wr.heap.size, 3, none⟩ (.slice ac (j + 3) cc)).heap[bb]? = some (.cells #[.int .i64 (wrap64 (nf + 1)), vIf, vE, .slice aX LN.length cX] 65) := (f1.same bb hbl (fun h => by
            rcases h with h | h
            · exact unhide HNB h
            · omega)).trans (unhide Y1)
          have fT : Fr (fun q => q = bb ∨ own (.slice a j c) q ∨ w2.heap.size ≤ q) w2 (wc.setCell ⟨wr.heap.size, 3, none⟩ (.slice ac (j + 3) cc)) (fun q => q = bb ∨ own (.slice a j c) q ∨ w2.heap.size ≤ q) :=
            ((unhide HF1).widen (fun _ h => .inl h)).trans (f1.widen (fun q h => by
              rcases h with h | h
              · exact .inr (.inl h)
              · exact .inr (.inr (by omega))))
          have bk := (unhide HB).mid fT (fun q hq h => by
            rcases h with h | h | h
            · exact .inl h
            · obtain ⟨cur, hcur⟩ := row_d (unhide HO) h
              exact .inr ⟨unhide HK q h, own_ty (unhide HB).bk.rI hcur (by decide), own_ty (unhide HB).bk.rE hcur (by decide), own_ty (unhide HB).bk.rN hcur (by decide)⟩
            · omega) hbd
          have m1 := (unhide K3).2.2.2.1 _ 1 (by omega) (((unhide K2).2.2.2.1 _ 1 (by omega) ((unhide K1).2.2.1.fr ((Fr.refl _ _).alloc _))).fr ((Fr.refl _ _).alloc _))
          have m2 := (unhide K3).2.2.2.1 _ 2 (by omega) ((unhide K2).2.2.1.fr ((Fr.refl _ _).alloc _))
          have m3 := (unhide K3).2.2.1
          have od := (unhide K3).1
          have xd := (unhide K3).2.1
          have g1 := (unhide K1).2.2.2.2.2
          have g2 := (unhide K2).2.2.2.2.2
          have g3 := (unhide K3).2.2.2.2.2
          have s1 : w2.heap.size ≤ ((wr.alloc (.cells #[.slice a j c, .slice none 0 0, .slice none 0 0, .slice none 0 0, .int .i64 m] 111)).alloc (.cells #[.int .i64 0, .int .i64 0, .int .i64 m, .slice none 0 0] 49)).heap.size := by simp; omega
          have s2 := Nat.le_trans (Nat.le_trans s1 (unhide K1).2.2.2.2.1.size) (Fr.size ((Fr.refl (fun _ => False) _).alloc (.cells #[.int .i64 0, .int .i64 0, .int .i64 m, .slice none 0 0, .int .i64 0, .int .i64 0, .int .i64 m, .slice none 0 0] 49)))
          have s3 := Nat.le_trans (Nat.le_trans s2 (unhide K2).2.2.2.2.1.size) (Fr.size ((Fr.refl (fun _ => False) _).alloc (.cells #[.int .i64 0, .int .i64 0, .int .i64 m, .slice none 0 0, .int .i64 0, .int .i64 0, .int .i64 m, .slice none 0 0, .int .i64 0, .int .i64 0, .int .i64 m, .slice none 0 0] 49)))
          have fresh : ∀ q, (own (.slice a j c) q ∨ own (.slice aa (j + 1) ca) q ∨ own (.slice ab (j + 2) cb) q ∨ own (.slice ac (j + 3) cc) q) → own (.slice a j c) q ∨ w2.heap.size ≤ q := fun q hq => by
            rcases hq with h | h | h | h
            · exact .inl h
            · exact (g1 q h).imp id (fun h => Nat.le_trans s1 h)
            · exact (g2 q h).imp id (fun h => Nat.le_trans s2 h)
            · exact (g3 q h).imp id (fun h => Nat.le_trans s3 h)
          have hXI : ¬ own (.slice aX LN.length cX) wr.heap.size := fun hq => by have := (World.ownsRow.lt (unhide HB).bk.rN _ hq).2; omega
          have hwd : B ≤ (wc.setCell ⟨wr.heap.size, 3, none⟩ (.slice ac (j + 3) cc)).heap.size := Nat.le_trans hBw fT.size
          clear g1 g2 g3 s1 s2 s3 f1 hbd hbl K1 K2 K3 V0O V0X V0P V1O V1X V1P V2O V2X V2P HB HO HK HF1 HFJ Y1 O1 hB0 hB1 hB2 kca kza kpa kcb kzb kpb kcc kzc kpc P1 Z2 cP hpl hPX hPX'
          generalize (wc.setCell ⟨wr.heap.size, 3, none⟩ (.slice ac (j + 3) cc)) = wd at *
          have ty : ∀ q, (own (.slice a j c) q ∨ own (.slice aa (j + 1) ca) q ∨ own (.slice ab (j + 2) cb) q ∨ own (.slice ac (j + 3) cc) q) → ∃ cur, wd.heap[q]? = some (.cells cur 49 (0, 0)) := fun q hq => by
            rcases hq with h | h | h | h
            · exact row_d od h
            · exact m1.ty od h
            · exact m2.ty od h
            · exact m3.ty od h
          have full : FullN wd (.slice a j c) m ∧ FullN wd (.slice aa (j + 1) ca) m ∧ FullN wd (.slice ab (j + 2) cb) m ∧ FullN wd (.slice ac (j + 3) cc) m := ⟨(FullU.row (by simp) od (by omega)).toN, m1.1.toN, m2.1.toN, m3.1.toN⟩
          have cbb := fun i => cell_of_row wd bb i _ 65 (0, 0) bk.bk.blk
          have FT := hide fT
          have BK := hide bk
          have TY := hide ty
          have FULL := hide full
          have FRESH := hide fresh
          have XD := hide xd
          clear fT bk ty full fresh m1 m2 m3 od
          have hE5 : ∀ o, (wd.alloc o).drew.heap[wr.heap.size]? = some (.cells #[.slice a j c, .slice aa (j + 1) ca, .slice ab (j + 2) cb, .slice ac (j + 3) cc, .int .i64 m] 111 (0, 0)) := fun o => (Below.heap_alloc wd o _ (Array.getElem?_eq_some_iff.1 (unhide XD)).1).trans (unhide XD)
          have cbq : ∀ o, (wd.alloc o).drew.cell? ⟨bb, 3, none⟩ = some (.slice aX LN.length cX) := fun o => by
            have h : (wd.alloc o).drew.heap[bb]? = _ := (Below.heap_alloc wd o _ (Array.getElem?_eq_some_iff.1 (unhide BK).bk.blk).1).trans (unhide BK).bk.blk
            exact cell_of_row _ _ 3 _ 65 (0, 0) h
          clear xd
          have hXb : wr.heap.size ≠ bb := fun e => by have h := unhide XD; rw [e] at h; exact absurd (ty_one h (unhide BK).bk.blk) (by decide)
          have fin : ∀ v' w3, w3.ownsRow B 111 5 v' (LN.length + 1) (flat5 LN ++ [.slice a j c, .slice aa (j + 1) ca, .slice ab (j + 2) cb, .slice ac (j + 3) cc, .int .i64 m]) → Fr (own (.slice aX LN.length cX)) (wd.alloc (.cells #[.slice a j c, .slice aa (j + 1) ca, .slice ab (j + 2) cb, .slice ac (j + 3) cc, .int .i64 m] 111)).drew w3 (own v') → KeptN w2 (w3.setCell ⟨bb, 3, none⟩ v') B bb (wrap64 (nf + 1)) (vIf) (vE) (.slice aX LN.length cX) LIf LE LN Kf (.slice a j c) := fun v' w3 o3 f3 => by
            have fa : Fr (fun _ => False) wd (wd.alloc (.cells #[.slice a j c, .slice aa (j + 1) ca, .slice ab (j + 2) cb, .slice ac (j + 3) cc, .int .i64 m] 111)).drew (fun _ => False) := ((Fr.refl _ _).alloc _).drew
            have hall : ∀ q, q < wd.heap.size → (wd.alloc (.cells #[.slice a j c, .slice aa (j + 1) ca, .slice ab (j + 2) cb, .slice ac (j + 3) cc, .int .i64 m] 111)).drew.heap[q]? = wd.heap[q]? := fun q hq => fa.same q hq (fun h => h)
            have full := unhide FULL
            have hb := ((unhide BK).fr fa).addN (e := ⟨.slice a j c, .slice aa (j + 1) ca, .slice ab (j + 2) cb, .slice ac (j + 3) cc, m⟩) (K2 := fun q => (own (.slice a j c) q ∨ own (.slice aa (j + 1) ca) q ∨ own (.slice ab (j + 2) cb) q ∨ own (.slice ac (j + 3) cc) q)) ⟨full.1.fr fa, full.2.1.fr fa, full.2.2.1.fr fa, full.2.2.2.fr fa⟩ ⟨own_lies.mono (fun _ h => .inl h), own_lies.mono (fun _ h => .inr (.inl h)), own_lies.mono (fun _ h => .inr (.inr (.inl h))), own_lies.mono (fun _ h => .inr (.inr (.inr h)))⟩ (fun q hq => by
              obtain ⟨cur, hcur⟩ := unhide TY q hq
              exact ⟨cur, (hall q (Array.getElem?_eq_some_iff.1 hcur).1).trans hcur⟩) o3 f3
            refine ⟨v', _, _, hb, fun q hq => ?_, fun q hq => ?_, ?_⟩
            · rcases hq with h | h
              · exact .inl h
              · exact .inr (unhide FRESH q h)
            · by_cases hlt : q < w2.heap.size
              · exact .inl (f3.old q (Nat.lt_of_lt_of_le hlt (Nat.le_trans (unhide FT).size fa.size)) hq)
              · exact .inr (by omega)
            · refine Fr.setCell ?_ _ _ (.inl (.inl rfl))
              refine ((unhide FT).widen (fun q h => ?_)).trans ((fa.widen (fun q h => h.elim)).trans (f3.widen (fun q h => .inr (.inl h))))
              rcases h with h | h | h
              · exact .inl h
              · exact .inr (.inr (.inl h))
              · exact .inr (.inr (.inr h))
          refine wp_region_held_drew (S := fun w' => w'.heap[wr.heap.size]? = some (.cells #[.slice a j c, .slice aa (j + 1) ca, .slice ab (j + 2) cb, .slice ac (j + 3) cc, .int .i64 m] 111 (0, 0))) (by kernel_rfl) ?_ (fun hHeld => ?_)
          · exact unhide XD
          refine wpAnyH_take (i := 0) (oi := { dst := some 67, op := Op.move (Operand.tmp 0), type := 60, pos := "law.go:132", after := #[], guard := none }) (v := ?_) rfl (by kernel_rfl) (by kernel_rfl) (by kernel_rfl) (fun _ _ _ h => h) (Or.inl ⟨by rfl, ?_⟩) (by assumption) ?_
          rotate_left
          · intro w hSw; (try dsimp only at hSw); go_simp; try with_reducible rfl
          simp only [Act.put, List.setIfInBounds_toArray, List.set_cons_zero, List.set_cons_succ]
          refine wpAnyH_take (i := 1) (oi := { dst := some 68, op := Op.move (Operand.tmp 0), type := 60, pos := "law.go:132", after := #[], guard := none }) (v := ?_) rfl (by kernel_rfl) (by kernel_rfl) (by kernel_rfl) (fun _ _ _ h => h) (Or.inl ⟨by rfl, ?_⟩) (by assumption) ?_
          rotate_left
          · intro w hSw; (try dsimp only at hSw); go_simp; try with_reducible rfl
          simp only [Act.put, List.setIfInBounds_toArray, List.set_cons_zero, List.set_cons_succ]
          refine wpAnyH_take (i := 2) (oi := { dst := some 69, op := Op.nilCheck (Operand.tmp 68), type := 0, pos := "law.go:132", after := #[{ on := 1, ground := Ground.data }], guard := none }) (v := ?_) rfl (by kernel_rfl) (by kernel_rfl) (by kernel_rfl) (fun _ _ _ h => h) (Or.inl ⟨by rfl, ?_⟩) (by assumption) ?_
          rotate_left
          · intro w hSw; (try dsimp only at hSw); go_simp; try with_reducible rfl
          simp only [Act.put, List.setIfInBounds_toArray, List.set_cons_zero, List.set_cons_succ]
          refine wpAnyH_take (i := 3) (oi := { dst := some 70, op := Op.fieldAddr 65 (Operand.tmp 69) 3, type := 0, pos := "law.go:132", after := #[{ on := 2, ground := Ground.data }], guard := none }) (v := ?_) rfl (by kernel_rfl) (by kernel_rfl) (by kernel_rfl) (fun _ _ _ h => h) (Or.inl ⟨by rfl, ?_⟩) (by assumption) ?_
          rotate_left
          · intro w hSw; (try dsimp only at hSw); go_simp; try with_reducible rfl
          simp only [Act.put, List.setIfInBounds_toArray, List.set_cons_zero, List.set_cons_succ]
          refine wpAnyH_take (i := 5) (oi := { dst := some 72, op := Op.load 111 (Operand.tmp 8), type := 111, pos := "law.go:132", after := #[], guard := none }) (v := ?_) rfl (by kernel_rfl) (by kernel_rfl) (by kernel_rfl) (fun _ _ _ h => h) (Or.inl ⟨by rfl, ?_⟩) (by assumption) ?_
          rotate_left
          · intro w hSw; have c5 := fun j => cell_of_row w _ j _ 111 (0, 0) hSw; go_simp; try with_reducible rfl
          simp only [Act.put, List.setIfInBounds_toArray, List.set_cons_zero, List.set_cons_succ]
          refine wpAnyH_ready (rs := [4, 6]) (by kernel_rfl) (by simp) ?_
          refine AllReadyH.cons (o := { dst := some 71, op := Op.load 63 (Operand.tmp 70), type := 63, pos := "law.go:132", after := #[{ on := 3, ground := Ground.data }], guard := none }) rfl (fun K' hK' => ?_) (AllReadyH.cons (o := { dst := some 73, op := Op.buildSlice 63 1 #[(0, Operand.tmp 72)], type := 63, pos := "law.go:132", after := #[{ on := 5, ground := Ground.data }], guard := none }) rfl (fun K' hK' => ?_) AllReadyH.nil)
          · go_simp
            refine hK'.out _ _ ?_ (fun hHeld => ?_)
            · exact unhide XD
            clear hK' K'
            try simp only [Act.put, List.setIfInBounds_toArray, List.set_cons_zero, List.set_cons_succ]
            refine wpAnyH_ready (rs := [6]) (by kernel_rfl) (by simp) ?_
            refine AllReadyH.cons (o := { dst := some 73, op := Op.buildSlice 63 1 #[(0, Operand.tmp 72)], type := 63, pos := "law.go:132", after := #[{ on := 5, ground := Ground.data }], guard := none }) rfl (fun K' hK' => ?_) AllReadyH.nil
            go_simp
            refine hK'.out _ _ ?_ (fun hHeld => ?_)
            · exact hE5 _
            clear hK' K'
            try simp only [Act.put, List.setIfInBounds_toArray, List.set_cons_zero, List.set_cons_succ]
            refine wpAnyH_ready (rs := [7]) (by kernel_rfl) (by simp) ?_
            refine AllReadyH.cons (o := { dst := some 74, op := Op.call { callee := Callee.builtin Builtin.append, args := #[Operand.tmp 71, Operand.tmp 73], argTypes := #[63, 63] }, type := 63, pos := "law.go:132", after := #[{ on := 4, ground := Ground.data }, { on := 6, ground := Ground.data }], guard := none }) rfl (fun K' hK' => ?_) AllReadyH.nil
            refine step_grown (d := 74) rfl elem111 (by decide) (by decide) (v := (.slice aX LN.length cX)) (n := LN.length) (m := 1) (xs := flat5 LN) (news := [.slice a j c, .slice aa (j + 1) ca, .slice ab (j + 2) cb, .slice ac (j + 3) cc, .int .i64 m]) (B := B) (ad := ⟨wd.heap.size, 0, none⟩) (cap := 1) rfl (.tmp 71) (.tmp 73) rfl rfl rfl ((unhide BK).fr ((Fr.refl _ _).alloc (.cells #[.slice a j c, .slice aa (j + 1) ca, .slice ab (j + 2) cb, .slice ac (j + 3) cc, .int .i64 m] 111)).drew).bk.rN rfl (World.news_of_block (heap_alloc_new wd _)) (by simp [Value.oneCell']) (by omega) (by omega) (by simp; omega) ?_
            intro v3 w3 o3 f3 sh3
            obtain ⟨av, cv, rfl⟩ := sh3
            have pr : w3.heap[bb]? = some (.cells #[.int .i64 (wrap64 (nf + 1)), vIf, vE, .slice aX LN.length cX] 65) := by
              have hb2 := ((unhide BK).fr ((Fr.refl _ _).alloc (.cells #[.slice a j c, .slice aa (j + 1) ca, .slice ab (j + 2) cb, .slice ac (j + 3) cc, .int .i64 m] 111)).drew)
              exact (f3.same bb (Array.getElem?_eq_some_iff.1 hb2.bk.blk).1 (own_ty hb2.bk.rN hb2.bk.blk (by decide))).trans hb2.bk.blk
            have pc := fun j => cell_of_row w3 bb j _ 65 (0, 0) pr
            have pz := fun j => frozen_rowE pr j
            have gg : w3.heap[wr.heap.size]? = some (.cells #[.slice a j c, .slice aa (j + 1) ca, .slice ab (j + 2) cb, .slice ac (j + 3) cc, .int .i64 m] 111 (0, 0)) := (f3.same _ (Array.getElem?_eq_some_iff.1 (hE5 _)).1 hXI).trans (hE5 (.cells #[.slice a j c, .slice aa (j + 1) ca, .slice ab (j + 2) cb, .slice ac (j + 3) cc, .int .i64 m] 111))
            have O3 := hide o3
            have F3 := hide f3
            clear o3 f3 pr
            refine hK'.out _ _ gg (fun hHeld => ?_)
            clear hK' K'
            simp only [List.setIfInBounds_toArray, List.set_cons_zero, List.set_cons_succ]
            refine wpAnyH_take (i := 8) (oi := { dst := some 75, op := Op.nilCheck (Operand.tmp 67), type := 0, pos := "law.go:132", after := #[{ on := 0, ground := Ground.data }, { on := 0, ground := Ground.phase }, { on := 1, ground := Ground.phase }, { on := 2, ground := Ground.phase }, { on := 3, ground := Ground.phase }, { on := 4, ground := Ground.phase }, { on := 5, ground := Ground.phase }, { on := 6, ground := Ground.phase }, { on := 7, ground := Ground.phase }], guard := none }) (v := ?_) rfl (by kernel_rfl) (by kernel_rfl) (by kernel_rfl) (fun _ _ _ h => h) (Or.inl ⟨by rfl, ?_⟩) (by assumption) ?_
            rotate_left
            · intro w hSw; (try dsimp only at hSw); go_simp; try with_reducible rfl
            simp only [Act.put, List.setIfInBounds_toArray, List.set_cons_zero, List.set_cons_succ]
            refine wpAnyH_take (i := 9) (oi := { dst := some 76, op := Op.fieldAddr 65 (Operand.tmp 75) 3, type := 0, pos := "law.go:132", after := #[{ on := 8, ground := Ground.data }, { on := 0, ground := Ground.phase }, { on := 1, ground := Ground.phase }, { on := 2, ground := Ground.phase }, { on := 3, ground := Ground.phase }, { on := 4, ground := Ground.phase }, { on := 5, ground := Ground.phase }, { on := 6, ground := Ground.phase }, { on := 7, ground := Ground.phase }], guard := none }) (v := ?_) rfl (by kernel_rfl) (by kernel_rfl) (by kernel_rfl) (fun _ _ _ h => h) (Or.inl ⟨by rfl, ?_⟩) (by assumption) ?_
            rotate_left
            · intro w hSw; (try dsimp only at hSw); go_simp; try with_reducible rfl
            simp only [Act.put, List.setIfInBounds_toArray, List.set_cons_zero, List.set_cons_succ]
            refine wpAnyH_ready (rs := [10]) (by kernel_rfl) (by simp) ?_
            refine AllReadyH.cons (o := { dst := none, op := Op.store 63 (Operand.tmp 76) (Operand.tmp 74), type := 0, pos := "law.go:132", after := #[{ on := 9, ground := Ground.data }, { on := 7, ground := Ground.data }, { on := 7, ground := Ground.chain }, { on := 0, ground := Ground.phase }, { on := 1, ground := Ground.phase }, { on := 2, ground := Ground.phase }, { on := 3, ground := Ground.phase }, { on := 4, ground := Ground.phase }, { on := 5, ground := Ground.phase }, { on := 6, ground := Ground.phase }, { on := 7, ground := Ground.phase }], guard := none }) rfl (fun K' hK' => ?_) AllReadyH.nil
            go_simp
            refine hK'.out _ _ ?_ (fun hHeld => ?_)
            · exact (Below.heap_setCell _ _ _ _ hXb).trans gg
            clear hK' K'
            try simp only [Act.put, List.setIfInBounds_toArray, List.set_cons_zero, List.set_cons_succ]
            refine wpAnyH_done (by kernel_rfl) ?_ _
            go_wp2
            go_end0
            exact ⟨rfl, unhide CLOSE _ (fin _ w3 (unhide O3) (unhide F3))⟩
          · go_simp
            refine hK'.out _ _ ?_ (fun hHeld => ?_)
            · exact hE5 _
            clear hK' K'
            try simp only [Act.put, List.setIfInBounds_toArray, List.set_cons_zero, List.set_cons_succ]
            refine wpAnyH_ready (rs := [4]) (by kernel_rfl) (by simp) ?_
            refine AllReadyH.cons (o := { dst := some 71, op := Op.load 63 (Operand.tmp 70), type := 63, pos := "law.go:132", after := #[{ on := 3, ground := Ground.data }], guard := none }) rfl (fun K' hK' => ?_) AllReadyH.nil
            go_simp
            refine hK'.out _ _ ?_ (fun hHeld => ?_)
            · exact hE5 _
            clear hK' K'
            try simp only [Act.put, List.setIfInBounds_toArray, List.set_cons_zero, List.set_cons_succ]
            refine wpAnyH_ready (rs := [7]) (by kernel_rfl) (by simp) ?_
            refine AllReadyH.cons (o := { dst := some 74, op := Op.call { callee := Callee.builtin Builtin.append, args := #[Operand.tmp 71, Operand.tmp 73], argTypes := #[63, 63] }, type := 63, pos := "law.go:132", after := #[{ on := 4, ground := Ground.data }, { on := 6, ground := Ground.data }], guard := none }) rfl (fun K' hK' => ?_) AllReadyH.nil
            refine step_grown (d := 74) rfl elem111 (by decide) (by decide) (v := (.slice aX LN.length cX)) (n := LN.length) (m := 1) (xs := flat5 LN) (news := [.slice a j c, .slice aa (j + 1) ca, .slice ab (j + 2) cb, .slice ac (j + 3) cc, .int .i64 m]) (B := B) (ad := ⟨wd.heap.size, 0, none⟩) (cap := 1) rfl (.tmp 71) (.tmp 73) rfl rfl rfl ((unhide BK).fr ((Fr.refl _ _).alloc (.cells #[.slice a j c, .slice aa (j + 1) ca, .slice ab (j + 2) cb, .slice ac (j + 3) cc, .int .i64 m] 111)).drew).bk.rN rfl (World.news_of_block (heap_alloc_new wd _)) (by simp [Value.oneCell']) (by omega) (by omega) (by simp; omega) ?_
            intro v3 w3 o3 f3 sh3
            obtain ⟨av, cv, rfl⟩ := sh3
            have pr : w3.heap[bb]? = some (.cells #[.int .i64 (wrap64 (nf + 1)), vIf, vE, .slice aX LN.length cX] 65) := by
              have hb2 := ((unhide BK).fr ((Fr.refl _ _).alloc (.cells #[.slice a j c, .slice aa (j + 1) ca, .slice ab (j + 2) cb, .slice ac (j + 3) cc, .int .i64 m] 111)).drew)
              exact (f3.same bb (Array.getElem?_eq_some_iff.1 hb2.bk.blk).1 (own_ty hb2.bk.rN hb2.bk.blk (by decide))).trans hb2.bk.blk
            have pc := fun j => cell_of_row w3 bb j _ 65 (0, 0) pr
            have pz := fun j => frozen_rowE pr j
            have gg : w3.heap[wr.heap.size]? = some (.cells #[.slice a j c, .slice aa (j + 1) ca, .slice ab (j + 2) cb, .slice ac (j + 3) cc, .int .i64 m] 111 (0, 0)) := (f3.same _ (Array.getElem?_eq_some_iff.1 (hE5 _)).1 hXI).trans (hE5 (.cells #[.slice a j c, .slice aa (j + 1) ca, .slice ab (j + 2) cb, .slice ac (j + 3) cc, .int .i64 m] 111))
            have O3 := hide o3
            have F3 := hide f3
            clear o3 f3 pr
            refine hK'.out _ _ gg (fun hHeld => ?_)
            clear hK' K'
            simp only [List.setIfInBounds_toArray, List.set_cons_zero, List.set_cons_succ]
            refine wpAnyH_take (i := 8) (oi := { dst := some 75, op := Op.nilCheck (Operand.tmp 67), type := 0, pos := "law.go:132", after := #[{ on := 0, ground := Ground.data }, { on := 0, ground := Ground.phase }, { on := 1, ground := Ground.phase }, { on := 2, ground := Ground.phase }, { on := 3, ground := Ground.phase }, { on := 4, ground := Ground.phase }, { on := 5, ground := Ground.phase }, { on := 6, ground := Ground.phase }, { on := 7, ground := Ground.phase }], guard := none }) (v := ?_) rfl (by kernel_rfl) (by kernel_rfl) (by kernel_rfl) (fun _ _ _ h => h) (Or.inl ⟨by rfl, ?_⟩) (by assumption) ?_
            rotate_left
            · intro w hSw; (try dsimp only at hSw); go_simp; try with_reducible rfl
            simp only [Act.put, List.setIfInBounds_toArray, List.set_cons_zero, List.set_cons_succ]
            refine wpAnyH_take (i := 9) (oi := { dst := some 76, op := Op.fieldAddr 65 (Operand.tmp 75) 3, type := 0, pos := "law.go:132", after := #[{ on := 8, ground := Ground.data }, { on := 0, ground := Ground.phase }, { on := 1, ground := Ground.phase }, { on := 2, ground := Ground.phase }, { on := 3, ground := Ground.phase }, { on := 4, ground := Ground.phase }, { on := 5, ground := Ground.phase }, { on := 6, ground := Ground.phase }, { on := 7, ground := Ground.phase }], guard := none }) (v := ?_) rfl (by kernel_rfl) (by kernel_rfl) (by kernel_rfl) (fun _ _ _ h => h) (Or.inl ⟨by rfl, ?_⟩) (by assumption) ?_
            rotate_left
            · intro w hSw; (try dsimp only at hSw); go_simp; try with_reducible rfl
            simp only [Act.put, List.setIfInBounds_toArray, List.set_cons_zero, List.set_cons_succ]
            refine wpAnyH_ready (rs := [10]) (by kernel_rfl) (by simp) ?_
            refine AllReadyH.cons (o := { dst := none, op := Op.store 63 (Operand.tmp 76) (Operand.tmp 74), type := 0, pos := "law.go:132", after := #[{ on := 9, ground := Ground.data }, { on := 7, ground := Ground.data }, { on := 7, ground := Ground.chain }, { on := 0, ground := Ground.phase }, { on := 1, ground := Ground.phase }, { on := 2, ground := Ground.phase }, { on := 3, ground := Ground.phase }, { on := 4, ground := Ground.phase }, { on := 5, ground := Ground.phase }, { on := 6, ground := Ground.phase }, { on := 7, ground := Ground.phase }], guard := none }) rfl (fun K' hK' => ?_) AllReadyH.nil
            go_simp
            refine hK'.out _ _ ?_ (fun hHeld => ?_)
            · exact (Below.heap_setCell _ _ _ _ hXb).trans gg
            clear hK' K'
            try simp only [Act.put, List.setIfInBounds_toArray, List.set_cons_zero, List.set_cons_succ]
            refine wpAnyH_done (by kernel_rfl) ?_ _
            go_wp2
            go_end0
            exact ⟨rfl, unhide CLOSE _ (fin _ w3 (unhide O3) (unhide F3))⟩
/-- keepInputs. -/
theorem keepInputs_any {w : World} {B bb : Nat} {n0 : Int} {vI vE vN : Value} {LI LE LN : List Ent} {K : Nat → Prop} (h : BookK w B bb n0 vI vE vN LI LE LN K) (hbb : B ≤ bb) (hBw0 : B ≤ w.heap.size) {lv : Value} {ps : List (Inp × Value)} (hi : InsAt w B lv ps) (hk : ∀ q, inS lv ps q → ¬ K q) (hl : ps.length ≤ 100000000) (hfl : ∀ p, p ∈ ps → p.1.2.2.2.length ≤ 100) (hL : LI.length + ps.length ≤ 900000000000) (hLN : LN.length ≤ 900000000000) :
    Calls Tryz.prog 45 #[.pointer (some ⟨bb, 0, none⟩), lv] w fun e w' => e = .returned (.tuple #[]) ∧ InsKept w w' B bb vE LI LE LN ps.length := keepInputs_nn h hbb hBw0 rfl hi hk hl hfl hL hLN
end Go.Proofs.YtfmbebofllgmoaaGreatDoor
namespace Go.Proofs.YtfmbebofllgmoaaGreatDoor
open Go.RowKit
attribute [local go_sem ↓] Go.wp_at_zero Go.wp_at_succ

set_option maxHeartbeats 4000000 in
set_option maxRecDepth 20000 in
theorem parsed_k1 (s : ByteArray) (hs : s.size ≤ 100) (w : World) (h0 : 0 < s.size) (hkk : byteAt s 0 = 1) : Calls Tryz.prog 77 #[.string s] w (PdPost s w) := by
  obtain ⟨t0, t1⟩ := two_allocsD w.heap (.cells #[.int .i64 0, .int .i64 0, .int .i64 0, .slice none 0 0] 49) (.cells #[.int .i64 0, .int .i64 0, .int .i64 0, .slice none 0 0] 49)
  change ((w.alloc _).alloc _).heap[_]? = _ at t0 t1
  have hfw : Fr (fun _ => False) w ((w.alloc (.cells #[.int .i64 0, .int .i64 0, .int .i64 0, .slice none 0 0] 49)).alloc (.cells #[.int .i64 0, .int .i64 0, .int .i64 0, .slice none 0 0] 49)) (fun _ => False) := ((Fr.refl _ _).alloc _).alloc _
  have HFW := hide hfw
  · obtain ⟨r, hbs, hrl⟩ := bs_cons h0
    obtain ⟨W, hW⟩ : ∃ W, ((w.alloc (.cells #[.int .i64 0, .int .i64 0, .int .i64 0, .slice none 0 0] 49)).alloc (.cells #[.int .i64 0, .int .i64 0, .int .i64 0, .slice none 0 0] 49)) = W := ⟨_, rfl⟩
    have hb1 : bs (s.extract 1 s.size) = r := by rw [bs_extract, hbs]; rfl
    have hsz1 : (s.extract 1 s.size).size = r.length := by rw [← bs_len, hb1]
    have hnd : numsD (s.extract 1 s.size) = nsGo r.length r := by unfold numsD; rw [hb1, hsz1]
    have h111 := numbers_any (s.extract 1 s.size) (by omega) W
    have hbyte := byteAt_eq s 0 h0
    have hblt := byteAt_lt s 0
    obtain ⟨k, hk⟩ : ∃ k, byteAt s 0 = k := ⟨_, rfl⟩
    rw [hk] at hbs hbyte hblt hkk
    have HKK := hide hkk
    clear hkk
    rw [hW] at t0 t1 HFW
    have H111 := hide h111
    have HW := hide hW
    have T0 := hide t0
    have T1 := hide t1
    have HBS := hide hbs
    have HND := hide hnd
    have hi1 : (1 : Int) ≤ (s.size : Int) := by omega
    have hne := str_pos h0
    clear h111 hW t0 t1 hbs hnd hb1 hsz1 hrl
    go_enter Tryz.func77, Tryz.ntmps77
    go_wp2_with fail
    rw [unhide HW]
    go_at_call 111
    refine (unhide H111).mono ?_
    rintro e w1 ⟨f1, hm⟩
    rw [unhide HND] at hm
    have hf1 := (unhide HFW).trans f1
    have x0 := (f1.same _ (Array.getElem?_eq_some_iff.1 (unhide T0)).1 (fun h => h)).trans (unhide T0)
    have x1 := (f1.same _ (Array.getElem?_eq_some_iff.1 (unhide T1)).1 (fun h => h)).trans (unhide T1)
    have hz1 : w.heap.size + 1 < w1.heap.size := (Array.getElem?_eq_some_iff.1 x1).1
    have c0 := fun j => cell_of_row w1 _ j _ 49 (0, 0) x0
    have c1 := fun j => cell_of_row w1 _ j _ 49 (0, 0) x1
    have z0 := fun j => frozen_rowE x0 j
    have z1 := fun j => frozen_rowE x1 j
    have HF1 := hide hf1
    have X0 := hide x0
    have X1 := hide x1
    have HWW := hide f1.size
    have HWZ := hide (show W.heap.size = w.heap.size + 2 by rw [← unhide HW]; simp)
    clear f1 hf1 x0 x1 HFW T0 T1 H111
    cases hns : nsGo r.length r with
    | none =>
      rw [hns] at hm
      have hm' : e = .returned (.tuple #[.slice none 0 0, .bool false]) := hm
      subst hm'
      have hip := hide (parse_nums (unhide HBS) hns)
      clear hm hns
      go_wp2
      refine bodyPost_ret (v := .tuple #[.agg #[.int .i64 0, .int .i64 0, .int .i64 0, .slice none 0 0], .bool false]) (by simp [results, Tryz.results77, go_sem, c0]) rfl ?_
      refine pd_none (unhide hip) ?_
      repeat (first | exact unhide HF1 | refine Fr.setCell ?_ _ _ (.inr (Nat.le_refl _)))
    | some ns =>
      rw [hns] at hm
      obtain ⟨hnl, v, he, ho⟩ := hm
      have hnl : ns.length ≤ 200 := by have h : (s.extract 1 s.size).size ≤ s.size := by simp [ByteArray.size_extract]
                                       omega
      subst he
      obtain ⟨va, vc, rfl⟩ := ownI_slice ho
      rw [zs_len]
      rw [zs_len] at ho
      cases ns with
      | nil =>
        have hip := hide (parse_bad (unhide HBS) hns rfl)
        clear hns ho hnl
        go_wp2
        refine bodyPost_ret (v := .tuple #[.agg #[.int .i64 0, .int .i64 0, .int .i64 0, .slice none 0 0], .bool false]) (by simp [results, Tryz.results77, go_sem, c0]) rfl ?_
        refine pd_none (unhide hip) ?_
        repeat (first | exact unhide HF1 | refine Fr.setCell ?_ _ _ (.inr (Nat.le_refl _)))
      | cons a t =>
        obtain ⟨g, cap, cur, hv, hg1, hg2, hg3, hg4, hg5, hg6⟩ := ownI_parts ho (by simp [zs])
        injection hv with hv1 hv2 hv3
        subst hv1 hv3
        have hgz : g < w1.heap.size := (Array.getElem?_eq_some_iff.1 hg2).1
        have hg1' : w.heap.size + 1 < g := by have := unhide HWZ; omega
        have l0 : w1.cell? ⟨g, 0, none⟩ = some (.int .i64 (a : Nat)) := by have := hg6 0 (by simp [zs]); simpa [zs] using this
        have HG6 := hide hg6
        have HNS := hide hns
        have hlen : (a :: t).length = t.length + 1 := rfl
        rw [hlen]
        have htl : t.length ≤ 200 := by have : (a :: t).length ≤ 200 := by omega
                                        simpa using Nat.le_of_succ_le this
        have ht0 : (0 : Int) < (t.length : Int) + 1 := by omega
        have hkc : ((s[0]'h0).toNat : Int) = (k : Int) := by rw [hbyte]
        clear hg6 hg5 hg4 hg2 hns ho hv2 hlen hbyte
        have y1 := setCell_row w1 (w.heap.size + 1) 0 _ 49 (.int .i64 (k : Int)) (unhide X1)
        have y0 : (w1.setCell ⟨w.heap.size + 1, 0, none⟩ (.int .i64 (k : Int))).heap[w.heap.size]? = _ := (Below.heap_setCell w1 ⟨w.heap.size + 1, 0, none⟩ (.int .i64 (k : Int)) w.heap.size (by simp)).trans (unhide X0)
        have yl : (w1.setCell ⟨w.heap.size + 1, 0, none⟩ (.int .i64 (k : Int))).heap[g]? = w1.heap[g]? := Below.heap_setCell w1 ⟨w.heap.size + 1, 0, none⟩ (.int .i64 (k : Int)) g (by simp; omega)
        have hfy := (unhide HF1).setCell ⟨w.heap.size + 1, 0, none⟩ (.int .i64 (k : Int)) (.inr (by simp))
        have hyz : (w1.setCell ⟨w.heap.size + 1, 0, none⟩ (.int .i64 (k : Int))).heap.size = w1.heap.size := by simp [World.setCell]
        go_upto_region 9 with fail
        generalize hw2 : w1.setCell ⟨w.heap.size + 1, 0, none⟩ (.int .i64 (k : Int)) = w2 at *
        have lc : ∀ j, j < t.length + 1 → w2.cell? ⟨g, j, none⟩ = some (.int .i64 ((a :: t).getD j 0 : Nat)) := fun j hj => by
          rw [cellOf_heap yl]
          have h := unhide HG6 j (by rw [zs_len]; exact hj)
          rw [h, zs_getD]
        have c0 := fun j => cell_of_row w2 _ j _ 49 (0, 0) y0
        have c1 := fun j => cell_of_row w2 _ j _ 49 (0, 0) y1
        have z1 := fun j => frozen_rowE y1 j
        have z0 := fun j => frozen_rowE y0 j
        have l0 := lc 0 (by omega)
        have LC := hide lc
        have Y0 := hide y0
        have Y1 := hide y1
        have HFY := hide hfy
        have hz2 : w.heap.size + 1 < w2.heap.size := by omega
        have hg2 : g < w2.heap.size := by omega
        clear y0 y1 yl hfy hyz hw2 lc X0 X1 HF1 HG6 hz1 hgz hg1 HWW
        have hkk := unhide HKK
        subst hkk
        by_cases hr : a ≤ 1099511627776
        · have hri : (a : Int) ≤ 1099511627776 := by omega
          have hcd : candD 1 (a :: t) = some (1, 0, a, []) := by simp only [candD]; rw [if_pos trivial, if_pos hr]
          have hbd := fun W => body_one 1 0 a (.slice none 0 0) none 0 0 rfl (.inl rfl) (by omega) W
          go_upto_region 32 with fail
          have q1 := setCell_row w2 (w.heap.size + 1) 2 _ 49 (.int .i64 (a : Int)) (unhide Y1)
          have q0 : (w2.setCell ⟨w.heap.size + 1, 2, none⟩ (.int .i64 (a : Int))).heap[w.heap.size]? = _ := (Below.heap_setCell w2 ⟨w.heap.size + 1, 2, none⟩ (.int .i64 (a : Int)) w.heap.size (by simp)).trans (unhide Y0)
          have qf := (unhide HFY).setCell ⟨w.heap.size + 1, 2, none⟩ (.int .i64 (a : Int)) (.inr (by simp))
          generalize hw3 : w2.setCell ⟨w.heap.size + 1, 2, none⟩ (.int .i64 (a : Int)) = w3 at *
          have d0 := fun j => cell_of_row w3 _ j _ 49 (0, 0) q0
          have d1 := fun j => cell_of_row w3 _ j _ 49 (0, 0) q1
          have u0 := fun j => frozen_rowE q0 j
          have HFQ := hide qf
          have hz3 : w.heap.size + 1 < w3.heap.size := (Array.getElem?_eq_some_iff.1 q1).1
          clear c0 c1 z1 z0 q0 q1 qf hw3
          obtain ⟨B, hB⟩ : ∃ B, bodyS 1 0 a = B := ⟨_, rfl⟩
          have hpc := parse_cand (unhide HBS) (unhide HNS) hcd (b := B) (by rw [← hB]; exact bs_body1 1 0 a [] (.inl rfl))
          rw [hB] at hbd
          have HBD := hide hbd
          clear hbd hB
          by_cases hBs : B = s
          · have hip := hide (hpc.1 hBs)
            clear hpc
            subst hBs
            go_region_held3 (fun w' => w'.cell? ⟨w.heap.size + 1, 0, none⟩ = some (.int .i64 (1)) ∧ w'.cell? ⟨w.heap.size + 1, 1, none⟩ = some (.int .i64 (0)) ∧ w'.cell? ⟨w.heap.size + 1, 2, none⟩ = some (.int .i64 (a : Nat)) ∧ w'.cell? ⟨w.heap.size + 1, 3, none⟩ = some (.slice none 0 0)) (first | (simp [go_sem, d1]; done) | (simp [go_sem, g1]; done)) (first | (go_at_call 112; refine (unhide HBD _).mono ?_; rintro e w4 ⟨rfl, f4⟩; have g0 := fun j => (f4.cell w.heap.size j (by simp; omega) (fun h => h)).trans (d0 j); have g1 := fun j => (f4.cell (w.heap.size + 1) j (by simp; omega) (fun h => h)).trans (d1 j); have v0 := fun j => (f4.frozen w.heap.size j (by simp; omega) (fun h => h)).trans (u0 j); have HF4 := hide ((unhide HFQ).trans (show Fr (fun _ => False) w3 w4 (fun _ => False) from ⟨f4.os, f4.tape, f4.output, f4.size, f4.same, f4.old⟩)); clear f4))
            all_goals
              go_wp2_with fail
              refine bodyPost_ret (v := .tuple #[.agg #[.int .i64 (1), .int .i64 (0), .int .i64 (a : Nat), .slice none 0 0], .bool true]) (by simp [results, Tryz.results77, go_sem, g0]) rfl ?_
              refine pd_some (x := (1, 0, a, [])) (unhide hip) ?_ ?_
              · repeat (first | exact unhide HF4 | refine Fr.drew ?_ | refine Fr.setCell ?_ _ _ (.inr (Nat.le_refl _)))
              · exact ⟨none, 0, rfl, .inl rfl⟩
          · have hip := hide (hpc.2 hBs)
            have hbq := str_ne hBs
            clear hpc hBs
            go_region_held3 (fun w' => w'.cell? ⟨w.heap.size + 1, 0, none⟩ = some (.int .i64 (1)) ∧ w'.cell? ⟨w.heap.size + 1, 1, none⟩ = some (.int .i64 (0)) ∧ w'.cell? ⟨w.heap.size + 1, 2, none⟩ = some (.int .i64 (a : Nat)) ∧ w'.cell? ⟨w.heap.size + 1, 3, none⟩ = some (.slice none 0 0)) (first | (simp [go_sem, d1]; done) | (simp [go_sem, g1]; done)) (first | (go_at_call 112; refine (unhide HBD _).mono ?_; rintro e w4 ⟨rfl, f4⟩; have g0 := fun j => (f4.cell w.heap.size j (by simp; omega) (fun h => h)).trans (d0 j); have g1 := fun j => (f4.cell (w.heap.size + 1) j (by simp; omega) (fun h => h)).trans (d1 j); have v0 := fun j => (f4.frozen w.heap.size j (by simp; omega) (fun h => h)).trans (u0 j); have HF4 := hide ((unhide HFQ).trans (show Fr (fun _ => False) w3 w4 (fun _ => False) from ⟨f4.os, f4.tape, f4.output, f4.size, f4.same, f4.old⟩)); clear f4))
            all_goals
              go_wp2_with fail
              refine bodyPost_ret (v := .tuple #[.agg #[.int .i64 (1), .int .i64 (0), .int .i64 (a : Nat), .slice none 0 0], .bool false]) (by simp [results, Tryz.results77, go_sem, g0, hbq]) rfl ?_
              refine pd_none (unhide hip) ?_
              repeat (first | exact unhide HF4 | refine Fr.drew ?_ | refine Fr.setCell ?_ _ _ (.inr (Nat.le_refl _)))
        · have hri : ¬ (a : Int) ≤ 1099511627776 := by omega
          have HIP := hide (parse_bad (unhide HBS) (unhide HNS) (by simp only [candD]; rw [if_pos trivial, if_neg hr]))
          go_upto_region 32 with fail
          have q1 := setCell_row w2 (w.heap.size + 1) 2 _ 49 (.int .i64 (a : Int)) (unhide Y1)
          have q0 : (w2.setCell ⟨w.heap.size + 1, 2, none⟩ (.int .i64 (a : Int))).heap[w.heap.size]? = _ := (Below.heap_setCell w2 ⟨w.heap.size + 1, 2, none⟩ (.int .i64 (a : Int)) w.heap.size (by simp)).trans (unhide Y0)
          have qf := (unhide HFY).setCell ⟨w.heap.size + 1, 2, none⟩ (.int .i64 (a : Int)) (.inr (by simp))
          generalize hw3 : w2.setCell ⟨w.heap.size + 1, 2, none⟩ (.int .i64 (a : Int)) = w3 at *
          have d0 := fun j => cell_of_row w3 _ j _ 49 (0, 0) q0
          have d1 := fun j => cell_of_row w3 _ j _ 49 (0, 0) q1
          have u0 := fun j => frozen_rowE q0 j
          have HFQ := hide qf
          have hz3 : w.heap.size + 1 < w3.heap.size := (Array.getElem?_eq_some_iff.1 q1).1
          clear c0 c1 z1 z0 q0 q1 qf hw3
          go_region
          all_goals
            go_wp2_with fail
            refine bodyPost_ret (v := .tuple #[.agg #[.int .i64 (1), .int .i64 (0), .int .i64 (a : Nat), .slice none 0 0], .bool false]) (by simp [results, Tryz.results77, go_sem, d0]) rfl ?_
            refine pd_none (unhide HIP) ?_
            repeat (first | exact unhide HFQ | refine Fr.drew ?_ | refine Fr.setCell ?_ _ _ (.inr (Nat.le_refl _)))
set_option maxHeartbeats 4000000 in
set_option maxRecDepth 20000 in
theorem parsed_k5 (s : ByteArray) (hs : s.size ≤ 100) (w : World) (h0 : 0 < s.size) (hkk : byteAt s 0 = 5) : Calls Tryz.prog 77 #[.string s] w (PdPost s w) := by
  obtain ⟨t0, t1⟩ := two_allocsD w.heap (.cells #[.int .i64 0, .int .i64 0, .int .i64 0, .slice none 0 0] 49) (.cells #[.int .i64 0, .int .i64 0, .int .i64 0, .slice none 0 0] 49)
  change ((w.alloc _).alloc _).heap[_]? = _ at t0 t1
  have hfw : Fr (fun _ => False) w ((w.alloc (.cells #[.int .i64 0, .int .i64 0, .int .i64 0, .slice none 0 0] 49)).alloc (.cells #[.int .i64 0, .int .i64 0, .int .i64 0, .slice none 0 0] 49)) (fun _ => False) := ((Fr.refl _ _).alloc _).alloc _
  have HFW := hide hfw
  · obtain ⟨r, hbs, hrl⟩ := bs_cons h0
    obtain ⟨W, hW⟩ : ∃ W, ((w.alloc (.cells #[.int .i64 0, .int .i64 0, .int .i64 0, .slice none 0 0] 49)).alloc (.cells #[.int .i64 0, .int .i64 0, .int .i64 0, .slice none 0 0] 49)) = W := ⟨_, rfl⟩
    have hb1 : bs (s.extract 1 s.size) = r := by rw [bs_extract, hbs]; rfl
    have hsz1 : (s.extract 1 s.size).size = r.length := by rw [← bs_len, hb1]
    have hnd : numsD (s.extract 1 s.size) = nsGo r.length r := by unfold numsD; rw [hb1, hsz1]
    have h111 := numbers_any (s.extract 1 s.size) (by omega) W
    have hbyte := byteAt_eq s 0 h0
    have hblt := byteAt_lt s 0
    obtain ⟨k, hk⟩ : ∃ k, byteAt s 0 = k := ⟨_, rfl⟩
    rw [hk] at hbs hbyte hblt hkk
    have HKK := hide hkk
    clear hkk
    rw [hW] at t0 t1 HFW
    have H111 := hide h111
    have HW := hide hW
    have T0 := hide t0
    have T1 := hide t1
    have HBS := hide hbs
    have HND := hide hnd
    have hi1 : (1 : Int) ≤ (s.size : Int) := by omega
    have hne := str_pos h0
    clear h111 hW t0 t1 hbs hnd hb1 hsz1 hrl
    go_enter Tryz.func77, Tryz.ntmps77
    go_wp2_with fail
    rw [unhide HW]
    go_at_call 111
    refine (unhide H111).mono ?_
    rintro e w1 ⟨f1, hm⟩
    rw [unhide HND] at hm
    have hf1 := (unhide HFW).trans f1
    have x0 := (f1.same _ (Array.getElem?_eq_some_iff.1 (unhide T0)).1 (fun h => h)).trans (unhide T0)
    have x1 := (f1.same _ (Array.getElem?_eq_some_iff.1 (unhide T1)).1 (fun h => h)).trans (unhide T1)
    have hz1 : w.heap.size + 1 < w1.heap.size := (Array.getElem?_eq_some_iff.1 x1).1
    have c0 := fun j => cell_of_row w1 _ j _ 49 (0, 0) x0
    have c1 := fun j => cell_of_row w1 _ j _ 49 (0, 0) x1
    have z0 := fun j => frozen_rowE x0 j
    have z1 := fun j => frozen_rowE x1 j
    have HF1 := hide hf1
    have X0 := hide x0
    have X1 := hide x1
    have HWW := hide f1.size
    have HWZ := hide (show W.heap.size = w.heap.size + 2 by rw [← unhide HW]; simp)
    clear f1 hf1 x0 x1 HFW T0 T1 H111
    cases hns : nsGo r.length r with
    | none =>
      rw [hns] at hm
      have hm' : e = .returned (.tuple #[.slice none 0 0, .bool false]) := hm
      subst hm'
      have hip := hide (parse_nums (unhide HBS) hns)
      clear hm hns
      go_wp2
      refine bodyPost_ret (v := .tuple #[.agg #[.int .i64 0, .int .i64 0, .int .i64 0, .slice none 0 0], .bool false]) (by simp [results, Tryz.results77, go_sem, c0]) rfl ?_
      refine pd_none (unhide hip) ?_
      repeat (first | exact unhide HF1 | refine Fr.setCell ?_ _ _ (.inr (Nat.le_refl _)))
    | some ns =>
      rw [hns] at hm
      obtain ⟨hnl, v, he, ho⟩ := hm
      have hnl : ns.length ≤ 200 := by have h : (s.extract 1 s.size).size ≤ s.size := by simp [ByteArray.size_extract]
                                       omega
      subst he
      obtain ⟨va, vc, rfl⟩ := ownI_slice ho
      rw [zs_len]
      rw [zs_len] at ho
      cases ns with
      | nil =>
        have hip := hide (parse_bad (unhide HBS) hns rfl)
        clear hns ho hnl
        go_wp2
        refine bodyPost_ret (v := .tuple #[.agg #[.int .i64 0, .int .i64 0, .int .i64 0, .slice none 0 0], .bool false]) (by simp [results, Tryz.results77, go_sem, c0]) rfl ?_
        refine pd_none (unhide hip) ?_
        repeat (first | exact unhide HF1 | refine Fr.setCell ?_ _ _ (.inr (Nat.le_refl _)))
      | cons a t =>
        obtain ⟨g, cap, cur, hv, hg1, hg2, hg3, hg4, hg5, hg6⟩ := ownI_parts ho (by simp [zs])
        injection hv with hv1 hv2 hv3
        subst hv1 hv3
        have hgz : g < w1.heap.size := (Array.getElem?_eq_some_iff.1 hg2).1
        have hg1' : w.heap.size + 1 < g := by have := unhide HWZ; omega
        have l0 : w1.cell? ⟨g, 0, none⟩ = some (.int .i64 (a : Nat)) := by have := hg6 0 (by simp [zs]); simpa [zs] using this
        have HG6 := hide hg6
        have HNS := hide hns
        have hlen : (a :: t).length = t.length + 1 := rfl
        rw [hlen]
        have htl : t.length ≤ 200 := by have : (a :: t).length ≤ 200 := by omega
                                        simpa using Nat.le_of_succ_le this
        have ht0 : (0 : Int) < (t.length : Int) + 1 := by omega
        have hkc : ((s[0]'h0).toNat : Int) = (k : Int) := by rw [hbyte]
        clear hg6 hg5 hg4 hg2 hns ho hv2 hlen hbyte
        have y1 := setCell_row w1 (w.heap.size + 1) 0 _ 49 (.int .i64 (k : Int)) (unhide X1)
        have y0 : (w1.setCell ⟨w.heap.size + 1, 0, none⟩ (.int .i64 (k : Int))).heap[w.heap.size]? = _ := (Below.heap_setCell w1 ⟨w.heap.size + 1, 0, none⟩ (.int .i64 (k : Int)) w.heap.size (by simp)).trans (unhide X0)
        have yl : (w1.setCell ⟨w.heap.size + 1, 0, none⟩ (.int .i64 (k : Int))).heap[g]? = w1.heap[g]? := Below.heap_setCell w1 ⟨w.heap.size + 1, 0, none⟩ (.int .i64 (k : Int)) g (by simp; omega)
        have hfy := (unhide HF1).setCell ⟨w.heap.size + 1, 0, none⟩ (.int .i64 (k : Int)) (.inr (by simp))
        have hyz : (w1.setCell ⟨w.heap.size + 1, 0, none⟩ (.int .i64 (k : Int))).heap.size = w1.heap.size := by simp [World.setCell]
        go_upto_region 9 with fail
        generalize hw2 : w1.setCell ⟨w.heap.size + 1, 0, none⟩ (.int .i64 (k : Int)) = w2 at *
        have lc : ∀ j, j < t.length + 1 → w2.cell? ⟨g, j, none⟩ = some (.int .i64 ((a :: t).getD j 0 : Nat)) := fun j hj => by
          rw [cellOf_heap yl]
          have h := unhide HG6 j (by rw [zs_len]; exact hj)
          rw [h, zs_getD]
        have c0 := fun j => cell_of_row w2 _ j _ 49 (0, 0) y0
        have c1 := fun j => cell_of_row w2 _ j _ 49 (0, 0) y1
        have z1 := fun j => frozen_rowE y1 j
        have z0 := fun j => frozen_rowE y0 j
        have l0 := lc 0 (by omega)
        have LC := hide lc
        have Y0 := hide y0
        have Y1 := hide y1
        have HFY := hide hfy
        have hz2 : w.heap.size + 1 < w2.heap.size := by omega
        have hg2 : g < w2.heap.size := by omega
        clear y0 y1 yl hfy hyz hw2 lc X0 X1 HF1 HG6 hz1 hgz hg1 HWW
        have hkk := unhide HKK
        subst hkk
        by_cases h1 : 1 ≤ a
        · have h1i : (1 : Int) ≤ (a : Int) := by omega
          by_cases h5 : a ≤ 5
          · have hri : (a : Int) ≤ 5 := by omega
            have hcd : candD 5 (a :: t) = some (5, 0, a, []) := by simp only [candD]; rw [if_neg (by decide), if_neg (by decide), if_neg (by decide), if_neg (by decide), if_pos trivial, if_pos ⟨h1, h5⟩]
            have hbd := fun W => body_one 5 0 a (.slice none 0 0) none 0 0 rfl (.inr rfl) (by omega) W
            go_upto_region 32 with fail
            have q1 := setCell_row w2 (w.heap.size + 1) 2 _ 49 (.int .i64 (a : Int)) (unhide Y1)
            have q0 : (w2.setCell ⟨w.heap.size + 1, 2, none⟩ (.int .i64 (a : Int))).heap[w.heap.size]? = _ := (Below.heap_setCell w2 ⟨w.heap.size + 1, 2, none⟩ (.int .i64 (a : Int)) w.heap.size (by simp)).trans (unhide Y0)
            have qf := (unhide HFY).setCell ⟨w.heap.size + 1, 2, none⟩ (.int .i64 (a : Int)) (.inr (by simp))
            generalize hw3 : w2.setCell ⟨w.heap.size + 1, 2, none⟩ (.int .i64 (a : Int)) = w3 at *
            have d0 := fun j => cell_of_row w3 _ j _ 49 (0, 0) q0
            have d1 := fun j => cell_of_row w3 _ j _ 49 (0, 0) q1
            have u0 := fun j => frozen_rowE q0 j
            have HFQ := hide qf
            have hz3 : w.heap.size + 1 < w3.heap.size := (Array.getElem?_eq_some_iff.1 q1).1
            clear c0 c1 z1 z0 q0 q1 qf hw3
            obtain ⟨B, hB⟩ : ∃ B, bodyS 5 0 a = B := ⟨_, rfl⟩
            have hpc := parse_cand (unhide HBS) (unhide HNS) hcd (b := B) (by rw [← hB]; exact bs_body1 5 0 a [] (.inr rfl))
            rw [hB] at hbd
            have HBD := hide hbd
            clear hbd hB
            by_cases hBs : B = s
            · have hip := hide (hpc.1 hBs)
              clear hpc
              subst hBs
              go_region_held3 (fun w' => w'.cell? ⟨w.heap.size + 1, 0, none⟩ = some (.int .i64 (5)) ∧ w'.cell? ⟨w.heap.size + 1, 1, none⟩ = some (.int .i64 (0)) ∧ w'.cell? ⟨w.heap.size + 1, 2, none⟩ = some (.int .i64 (a : Nat)) ∧ w'.cell? ⟨w.heap.size + 1, 3, none⟩ = some (.slice none 0 0)) (first | (simp [go_sem, d1]; done) | (simp [go_sem, g1]; done)) (first | (go_at_call 112; refine (unhide HBD _).mono ?_; rintro e w4 ⟨rfl, f4⟩; have g0 := fun j => (f4.cell w.heap.size j (by simp; omega) (fun h => h)).trans (d0 j); have g1 := fun j => (f4.cell (w.heap.size + 1) j (by simp; omega) (fun h => h)).trans (d1 j); have v0 := fun j => (f4.frozen w.heap.size j (by simp; omega) (fun h => h)).trans (u0 j); have HF4 := hide ((unhide HFQ).trans (show Fr (fun _ => False) w3 w4 (fun _ => False) from ⟨f4.os, f4.tape, f4.output, f4.size, f4.same, f4.old⟩)); clear f4))
              all_goals
                go_wp2_with fail
                refine bodyPost_ret (v := .tuple #[.agg #[.int .i64 (5), .int .i64 (0), .int .i64 (a : Nat), .slice none 0 0], .bool true]) (by simp [results, Tryz.results77, go_sem, g0]) rfl ?_
                refine pd_some (x := (5, 0, a, [])) (unhide hip) ?_ ?_
                · repeat (first | exact unhide HF4 | refine Fr.drew ?_ | refine Fr.setCell ?_ _ _ (.inr (Nat.le_refl _)))
                · exact ⟨none, 0, rfl, .inl rfl⟩
            · have hip := hide (hpc.2 hBs)
              have hbq := str_ne hBs
              clear hpc hBs
              go_region_held3 (fun w' => w'.cell? ⟨w.heap.size + 1, 0, none⟩ = some (.int .i64 (5)) ∧ w'.cell? ⟨w.heap.size + 1, 1, none⟩ = some (.int .i64 (0)) ∧ w'.cell? ⟨w.heap.size + 1, 2, none⟩ = some (.int .i64 (a : Nat)) ∧ w'.cell? ⟨w.heap.size + 1, 3, none⟩ = some (.slice none 0 0)) (first | (simp [go_sem, d1]; done) | (simp [go_sem, g1]; done)) (first | (go_at_call 112; refine (unhide HBD _).mono ?_; rintro e w4 ⟨rfl, f4⟩; have g0 := fun j => (f4.cell w.heap.size j (by simp; omega) (fun h => h)).trans (d0 j); have g1 := fun j => (f4.cell (w.heap.size + 1) j (by simp; omega) (fun h => h)).trans (d1 j); have v0 := fun j => (f4.frozen w.heap.size j (by simp; omega) (fun h => h)).trans (u0 j); have HF4 := hide ((unhide HFQ).trans (show Fr (fun _ => False) w3 w4 (fun _ => False) from ⟨f4.os, f4.tape, f4.output, f4.size, f4.same, f4.old⟩)); clear f4))
              all_goals
                go_wp2_with fail
                refine bodyPost_ret (v := .tuple #[.agg #[.int .i64 (5), .int .i64 (0), .int .i64 (a : Nat), .slice none 0 0], .bool false]) (by simp [results, Tryz.results77, go_sem, g0, hbq]) rfl ?_
                refine pd_none (unhide hip) ?_
                repeat (first | exact unhide HF4 | refine Fr.drew ?_ | refine Fr.setCell ?_ _ _ (.inr (Nat.le_refl _)))
          · have hri : ¬ (a : Int) ≤ 5 := by omega
            have HIP := hide (parse_bad (unhide HBS) (unhide HNS) (by simp only [candD]; rw [if_neg (by decide), if_neg (by decide), if_neg (by decide), if_neg (by decide), if_pos trivial, if_neg (fun h => h5 h.2)]))
            go_upto_region 32 with fail
            have q1 := setCell_row w2 (w.heap.size + 1) 2 _ 49 (.int .i64 (a : Int)) (unhide Y1)
            have q0 : (w2.setCell ⟨w.heap.size + 1, 2, none⟩ (.int .i64 (a : Int))).heap[w.heap.size]? = _ := (Below.heap_setCell w2 ⟨w.heap.size + 1, 2, none⟩ (.int .i64 (a : Int)) w.heap.size (by simp)).trans (unhide Y0)
            have qf := (unhide HFY).setCell ⟨w.heap.size + 1, 2, none⟩ (.int .i64 (a : Int)) (.inr (by simp))
            generalize hw3 : w2.setCell ⟨w.heap.size + 1, 2, none⟩ (.int .i64 (a : Int)) = w3 at *
            have d0 := fun j => cell_of_row w3 _ j _ 49 (0, 0) q0
            have d1 := fun j => cell_of_row w3 _ j _ 49 (0, 0) q1
            have u0 := fun j => frozen_rowE q0 j
            have HFQ := hide qf
            have hz3 : w.heap.size + 1 < w3.heap.size := (Array.getElem?_eq_some_iff.1 q1).1
            clear c0 c1 z1 z0 q0 q1 qf hw3
            go_region
            all_goals
              go_wp2_with fail
              refine bodyPost_ret (v := .tuple #[.agg #[.int .i64 (5), .int .i64 (0), .int .i64 (a : Nat), .slice none 0 0], .bool false]) (by simp [results, Tryz.results77, go_sem, d0]) rfl ?_
              refine pd_none (unhide HIP) ?_
              repeat (first | exact unhide HFQ | refine Fr.drew ?_ | refine Fr.setCell ?_ _ _ (.inr (Nat.le_refl _)))
        · have h1i : ¬ (1 : Int) ≤ (a : Int) := by omega
          have HIP := hide (parse_bad (unhide HBS) (unhide HNS) (by simp only [candD]; rw [if_neg (by decide), if_neg (by decide), if_neg (by decide), if_neg (by decide), if_pos trivial, if_neg (fun h => h1 h.1)]))
          go_upto_region 32 with fail
          have q1 := setCell_row w2 (w.heap.size + 1) 2 _ 49 (.int .i64 (a : Int)) (unhide Y1)
          have q0 : (w2.setCell ⟨w.heap.size + 1, 2, none⟩ (.int .i64 (a : Int))).heap[w.heap.size]? = _ := (Below.heap_setCell w2 ⟨w.heap.size + 1, 2, none⟩ (.int .i64 (a : Int)) w.heap.size (by simp)).trans (unhide Y0)
          have qf := (unhide HFY).setCell ⟨w.heap.size + 1, 2, none⟩ (.int .i64 (a : Int)) (.inr (by simp))
          generalize hw3 : w2.setCell ⟨w.heap.size + 1, 2, none⟩ (.int .i64 (a : Int)) = w3 at *
          have d0 := fun j => cell_of_row w3 _ j _ 49 (0, 0) q0
          have d1 := fun j => cell_of_row w3 _ j _ 49 (0, 0) q1
          have u0 := fun j => frozen_rowE q0 j
          have HFQ := hide qf
          have hz3 : w.heap.size + 1 < w3.heap.size := (Array.getElem?_eq_some_iff.1 q1).1
          clear c0 c1 z1 z0 q0 q1 qf hw3
          go_region
          all_goals
            go_wp2_with fail
            refine bodyPost_ret (v := .tuple #[.agg #[.int .i64 (5), .int .i64 (0), .int .i64 (a : Nat), .slice none 0 0], .bool false]) (by simp [results, Tryz.results77, go_sem, d0]) rfl ?_
            refine pd_none (unhide HIP) ?_
            repeat (first | exact unhide HFQ | refine Fr.drew ?_ | refine Fr.setCell ?_ _ _ (.inr (Nat.le_refl _)))
set_option maxHeartbeats 4000000 in
set_option maxRecDepth 20000 in
theorem parsed_k0 (s : ByteArray) (hs : s.size ≤ 100) (w : World) (h0 : 0 < s.size) (hkk : byteAt s 0 ≠ 1 ∧ byteAt s 0 ≠ 2 ∧ byteAt s 0 ≠ 3 ∧ byteAt s 0 ≠ 4 ∧ byteAt s 0 ≠ 5) : Calls Tryz.prog 77 #[.string s] w (PdPost s w) := by
  obtain ⟨t0, t1⟩ := two_allocsD w.heap (.cells #[.int .i64 0, .int .i64 0, .int .i64 0, .slice none 0 0] 49) (.cells #[.int .i64 0, .int .i64 0, .int .i64 0, .slice none 0 0] 49)
  change ((w.alloc _).alloc _).heap[_]? = _ at t0 t1
  have hfw : Fr (fun _ => False) w ((w.alloc (.cells #[.int .i64 0, .int .i64 0, .int .i64 0, .slice none 0 0] 49)).alloc (.cells #[.int .i64 0, .int .i64 0, .int .i64 0, .slice none 0 0] 49)) (fun _ => False) := ((Fr.refl _ _).alloc _).alloc _
  have HFW := hide hfw
  · obtain ⟨r, hbs, hrl⟩ := bs_cons h0
    obtain ⟨W, hW⟩ : ∃ W, ((w.alloc (.cells #[.int .i64 0, .int .i64 0, .int .i64 0, .slice none 0 0] 49)).alloc (.cells #[.int .i64 0, .int .i64 0, .int .i64 0, .slice none 0 0] 49)) = W := ⟨_, rfl⟩
    have hb1 : bs (s.extract 1 s.size) = r := by rw [bs_extract, hbs]; rfl
    have hsz1 : (s.extract 1 s.size).size = r.length := by rw [← bs_len, hb1]
    have hnd : numsD (s.extract 1 s.size) = nsGo r.length r := by unfold numsD; rw [hb1, hsz1]
    have h111 := numbers_any (s.extract 1 s.size) (by omega) W
    have hbyte := byteAt_eq s 0 h0
    have hblt := byteAt_lt s 0
    obtain ⟨k, hk⟩ : ∃ k, byteAt s 0 = k := ⟨_, rfl⟩
    rw [hk] at hbs hbyte hblt hkk
    have HKK := hide hkk
    clear hkk
    rw [hW] at t0 t1 HFW
    have H111 := hide h111
    have HW := hide hW
    have T0 := hide t0
    have T1 := hide t1
    have HBS := hide hbs
    have HND := hide hnd
    have hi1 : (1 : Int) ≤ (s.size : Int) := by omega
    have hne := str_pos h0
    clear h111 hW t0 t1 hbs hnd hb1 hsz1 hrl
    go_enter Tryz.func77, Tryz.ntmps77
    go_wp2_with fail
    rw [unhide HW]
    go_at_call 111
    refine (unhide H111).mono ?_
    rintro e w1 ⟨f1, hm⟩
    rw [unhide HND] at hm
    have hf1 := (unhide HFW).trans f1
    have x0 := (f1.same _ (Array.getElem?_eq_some_iff.1 (unhide T0)).1 (fun h => h)).trans (unhide T0)
    have x1 := (f1.same _ (Array.getElem?_eq_some_iff.1 (unhide T1)).1 (fun h => h)).trans (unhide T1)
    have hz1 : w.heap.size + 1 < w1.heap.size := (Array.getElem?_eq_some_iff.1 x1).1
    have c0 := fun j => cell_of_row w1 _ j _ 49 (0, 0) x0
    have c1 := fun j => cell_of_row w1 _ j _ 49 (0, 0) x1
    have z0 := fun j => frozen_rowE x0 j
    have z1 := fun j => frozen_rowE x1 j
    have HF1 := hide hf1
    have X0 := hide x0
    have X1 := hide x1
    have HWW := hide f1.size
    have HWZ := hide (show W.heap.size = w.heap.size + 2 by rw [← unhide HW]; simp)
    clear f1 hf1 x0 x1 HFW T0 T1 H111
    cases hns : nsGo r.length r with
    | none =>
      rw [hns] at hm
      have hm' : e = .returned (.tuple #[.slice none 0 0, .bool false]) := hm
      subst hm'
      have hip := hide (parse_nums (unhide HBS) hns)
      clear hm hns
      go_wp2
      refine bodyPost_ret (v := .tuple #[.agg #[.int .i64 0, .int .i64 0, .int .i64 0, .slice none 0 0], .bool false]) (by simp [results, Tryz.results77, go_sem, c0]) rfl ?_
      refine pd_none (unhide hip) ?_
      repeat (first | exact unhide HF1 | refine Fr.setCell ?_ _ _ (.inr (Nat.le_refl _)))
    | some ns =>
      rw [hns] at hm
      obtain ⟨hnl, v, he, ho⟩ := hm
      have hnl : ns.length ≤ 200 := by have h : (s.extract 1 s.size).size ≤ s.size := by simp [ByteArray.size_extract]
                                       omega
      subst he
      obtain ⟨va, vc, rfl⟩ := ownI_slice ho
      rw [zs_len]
      rw [zs_len] at ho
      cases ns with
      | nil =>
        have hip := hide (parse_bad (unhide HBS) hns rfl)
        clear hns ho hnl
        go_wp2
        refine bodyPost_ret (v := .tuple #[.agg #[.int .i64 0, .int .i64 0, .int .i64 0, .slice none 0 0], .bool false]) (by simp [results, Tryz.results77, go_sem, c0]) rfl ?_
        refine pd_none (unhide hip) ?_
        repeat (first | exact unhide HF1 | refine Fr.setCell ?_ _ _ (.inr (Nat.le_refl _)))
      | cons a t =>
        obtain ⟨g, cap, cur, hv, hg1, hg2, hg3, hg4, hg5, hg6⟩ := ownI_parts ho (by simp [zs])
        injection hv with hv1 hv2 hv3
        subst hv1 hv3
        have hgz : g < w1.heap.size := (Array.getElem?_eq_some_iff.1 hg2).1
        have hg1' : w.heap.size + 1 < g := by have := unhide HWZ; omega
        have l0 : w1.cell? ⟨g, 0, none⟩ = some (.int .i64 (a : Nat)) := by have := hg6 0 (by simp [zs]); simpa [zs] using this
        have HG6 := hide hg6
        have HNS := hide hns
        have hlen : (a :: t).length = t.length + 1 := rfl
        rw [hlen]
        have htl : t.length ≤ 200 := by have : (a :: t).length ≤ 200 := by omega
                                        simpa using Nat.le_of_succ_le this
        have ht0 : (0 : Int) < (t.length : Int) + 1 := by omega
        have hkc : ((s[0]'h0).toNat : Int) = (k : Int) := by rw [hbyte]
        clear hg6 hg5 hg4 hg2 hns ho hv2 hlen hbyte
        have y1 := setCell_row w1 (w.heap.size + 1) 0 _ 49 (.int .i64 (k : Int)) (unhide X1)
        have y0 : (w1.setCell ⟨w.heap.size + 1, 0, none⟩ (.int .i64 (k : Int))).heap[w.heap.size]? = _ := (Below.heap_setCell w1 ⟨w.heap.size + 1, 0, none⟩ (.int .i64 (k : Int)) w.heap.size (by simp)).trans (unhide X0)
        have yl : (w1.setCell ⟨w.heap.size + 1, 0, none⟩ (.int .i64 (k : Int))).heap[g]? = w1.heap[g]? := Below.heap_setCell w1 ⟨w.heap.size + 1, 0, none⟩ (.int .i64 (k : Int)) g (by simp; omega)
        have hfy := (unhide HF1).setCell ⟨w.heap.size + 1, 0, none⟩ (.int .i64 (k : Int)) (.inr (by simp))
        have hyz : (w1.setCell ⟨w.heap.size + 1, 0, none⟩ (.int .i64 (k : Int))).heap.size = w1.heap.size := by simp [World.setCell]
        go_upto_region 9 with fail
        generalize hw2 : w1.setCell ⟨w.heap.size + 1, 0, none⟩ (.int .i64 (k : Int)) = w2 at *
        have lc : ∀ j, j < t.length + 1 → w2.cell? ⟨g, j, none⟩ = some (.int .i64 ((a :: t).getD j 0 : Nat)) := fun j hj => by
          rw [cellOf_heap yl]
          have h := unhide HG6 j (by rw [zs_len]; exact hj)
          rw [h, zs_getD]
        have c0 := fun j => cell_of_row w2 _ j _ 49 (0, 0) y0
        have c1 := fun j => cell_of_row w2 _ j _ 49 (0, 0) y1
        have z1 := fun j => frozen_rowE y1 j
        have z0 := fun j => frozen_rowE y0 j
        have l0 := lc 0 (by omega)
        have LC := hide lc
        have Y0 := hide y0
        have Y1 := hide y1
        have HFY := hide hfy
        have hz2 : w.heap.size + 1 < w2.heap.size := by omega
        have hg2 : g < w2.heap.size := by omega
        clear y0 y1 yl hfy hyz hw2 lc X0 X1 HF1 HG6 hz1 hgz hg1 HWW
        have hkk := unhide HKK
        have k1 : ((k : Int) == 1) = false := by simp; omega
        have k2 : ((k : Int) == 2) = false := by simp; omega
        have k3 : ((k : Int) == 3) = false := by simp; omega
        have k4 : ((k : Int) == 4) = false := by simp; omega
        have k5 : ((k : Int) == 5) = false := by simp; omega
        have HIP := hide (parse_bad (unhide HBS) (unhide HNS) (by simp only [candD]; rw [if_neg (by omega), if_neg (by omega), if_neg (by omega), if_neg (by omega), if_neg (by omega)]))
        go_upto_region 32 with fail
        have q1 := unhide Y1
        have q0 := unhide Y0
        have qf := unhide HFY
        obtain ⟨w3, hw3⟩ : ∃ w3, w2 = w3 := ⟨_, rfl⟩
        rw [hw3] at q0 q1 qf ⊢
        have d0 := fun j => cell_of_row w3 _ j _ 49 (0, 0) q0
        have d1 := fun j => cell_of_row w3 _ j _ 49 (0, 0) q1
        have u0 := fun j => frozen_rowE q0 j
        have HFQ := hide qf
        have hz3 : w.heap.size + 1 < w3.heap.size := (Array.getElem?_eq_some_iff.1 q1).1
        clear c0 c1 z1 z0 q0 q1 qf hw3
        go_region
        all_goals
          go_wp2_with fail
          refine bodyPost_ret (v := .tuple #[.agg #[.int .i64 (k : Nat), .int .i64 (0), .int .i64 (0), .slice none 0 0], .bool false]) (by simp [results, Tryz.results77, go_sem, d0]) rfl ?_
          refine pd_none (unhide HIP) ?_
          repeat (first | exact unhide HFQ | refine Fr.drew ?_ | refine Fr.setCell ?_ _ _ (.inr (Nat.le_refl _)))
end Go.Proofs.YtfmbebofllgmoaaGreatDoor
namespace Go.Proofs.YtfmbebofllgmoaaGreatDoor
open Go.RowKit
attribute [local go_sem ↓] Go.wp_at_zero Go.wp_at_succ

set_option maxHeartbeats 4000000 in
set_option maxRecDepth 20000 in
theorem parsed_k2 (s : ByteArray) (hs : s.size ≤ 100) (w : World) (h0 : 0 < s.size) (hkk : byteAt s 0 = 2) : Calls Tryz.prog 77 #[.string s] w (PdPost s w) := by
  obtain ⟨t0, t1⟩ := two_allocsD w.heap (.cells #[.int .i64 0, .int .i64 0, .int .i64 0, .slice none 0 0] 49) (.cells #[.int .i64 0, .int .i64 0, .int .i64 0, .slice none 0 0] 49)
  change ((w.alloc _).alloc _).heap[_]? = _ at t0 t1
  have hfw : Fr (fun _ => False) w ((w.alloc (.cells #[.int .i64 0, .int .i64 0, .int .i64 0, .slice none 0 0] 49)).alloc (.cells #[.int .i64 0, .int .i64 0, .int .i64 0, .slice none 0 0] 49)) (fun _ => False) := ((Fr.refl _ _).alloc _).alloc _
  have HFW := hide hfw
  · obtain ⟨r, hbs, hrl⟩ := bs_cons h0
    obtain ⟨W, hW⟩ : ∃ W, ((w.alloc (.cells #[.int .i64 0, .int .i64 0, .int .i64 0, .slice none 0 0] 49)).alloc (.cells #[.int .i64 0, .int .i64 0, .int .i64 0, .slice none 0 0] 49)) = W := ⟨_, rfl⟩
    have hb1 : bs (s.extract 1 s.size) = r := by rw [bs_extract, hbs]; rfl
    have hsz1 : (s.extract 1 s.size).size = r.length := by rw [← bs_len, hb1]
    have hnd : numsD (s.extract 1 s.size) = nsGo r.length r := by unfold numsD; rw [hb1, hsz1]
    have h111 := numbers_any (s.extract 1 s.size) (by omega) W
    have hbyte := byteAt_eq s 0 h0
    have hblt := byteAt_lt s 0
    obtain ⟨k, hk⟩ : ∃ k, byteAt s 0 = k := ⟨_, rfl⟩
    rw [hk] at hbs hbyte hblt hkk
    have HKK := hide hkk
    clear hkk
    rw [hW] at t0 t1 HFW
    have H111 := hide h111
    have HW := hide hW
    have T0 := hide t0
    have T1 := hide t1
    have HBS := hide hbs
    have HND := hide hnd
    have hi1 : (1 : Int) ≤ (s.size : Int) := by omega
    have hne := str_pos h0
    clear h111 hW t0 t1 hbs hnd hb1 hsz1 hrl
    go_enter Tryz.func77, Tryz.ntmps77
    go_wp2_with fail
    rw [unhide HW]
    go_at_call 111
    refine (unhide H111).mono ?_
    rintro e w1 ⟨f1, hm⟩
    rw [unhide HND] at hm
    have hf1 := (unhide HFW).trans f1
    have x0 := (f1.same _ (Array.getElem?_eq_some_iff.1 (unhide T0)).1 (fun h => h)).trans (unhide T0)
    have x1 := (f1.same _ (Array.getElem?_eq_some_iff.1 (unhide T1)).1 (fun h => h)).trans (unhide T1)
    have hz1 : w.heap.size + 1 < w1.heap.size := (Array.getElem?_eq_some_iff.1 x1).1
    have c0 := fun j => cell_of_row w1 _ j _ 49 (0, 0) x0
    have c1 := fun j => cell_of_row w1 _ j _ 49 (0, 0) x1
    have z0 := fun j => frozen_rowE x0 j
    have z1 := fun j => frozen_rowE x1 j
    have HF1 := hide hf1
    have X0 := hide x0
    have X1 := hide x1
    have HWW := hide f1.size
    have HWZ := hide (show W.heap.size = w.heap.size + 2 by rw [← unhide HW]; simp)
    clear f1 hf1 x0 x1 HFW T0 T1 H111
    cases hns : nsGo r.length r with
    | none =>
      rw [hns] at hm
      have hm' : e = .returned (.tuple #[.slice none 0 0, .bool false]) := hm
      subst hm'
      have hip := hide (parse_nums (unhide HBS) hns)
      clear hm hns
      go_wp2
      refine bodyPost_ret (v := .tuple #[.agg #[.int .i64 0, .int .i64 0, .int .i64 0, .slice none 0 0], .bool false]) (by simp [results, Tryz.results77, go_sem, c0]) rfl ?_
      refine pd_none (unhide hip) ?_
      repeat (first | exact unhide HF1 | refine Fr.setCell ?_ _ _ (.inr (Nat.le_refl _)))
    | some ns =>
      rw [hns] at hm
      obtain ⟨hnl, v, he, ho⟩ := hm
      have hnl : ns.length ≤ 200 := by have h : (s.extract 1 s.size).size ≤ s.size := by simp [ByteArray.size_extract]
                                       omega
      subst he
      obtain ⟨va, vc, rfl⟩ := ownI_slice ho
      rw [zs_len]
      rw [zs_len] at ho
      cases ns with
      | nil =>
        have hip := hide (parse_bad (unhide HBS) hns rfl)
        clear hns ho hnl
        go_wp2
        refine bodyPost_ret (v := .tuple #[.agg #[.int .i64 0, .int .i64 0, .int .i64 0, .slice none 0 0], .bool false]) (by simp [results, Tryz.results77, go_sem, c0]) rfl ?_
        refine pd_none (unhide hip) ?_
        repeat (first | exact unhide HF1 | refine Fr.setCell ?_ _ _ (.inr (Nat.le_refl _)))
      | cons a t =>
        obtain ⟨g, cap, cur, hv, hg1, hg2, hg3, hg4, hg5, hg6⟩ := ownI_parts ho (by simp [zs])
        injection hv with hv1 hv2 hv3
        subst hv1 hv3
        have hgz : g < w1.heap.size := (Array.getElem?_eq_some_iff.1 hg2).1
        have hg1' : w.heap.size + 1 < g := by have := unhide HWZ; omega
        have l0 : w1.cell? ⟨g, 0, none⟩ = some (.int .i64 (a : Nat)) := by have := hg6 0 (by simp [zs]); simpa [zs] using this
        have HG6 := hide hg6
        have HNS := hide hns
        have hlen : (a :: t).length = t.length + 1 := rfl
        rw [hlen]
        have htl : t.length ≤ 200 := by have : (a :: t).length ≤ 200 := by omega
                                        simpa using Nat.le_of_succ_le this
        have ht0 : (0 : Int) < (t.length : Int) + 1 := by omega
        have hkc : ((s[0]'h0).toNat : Int) = (k : Int) := by rw [hbyte]
        clear hg6 hg5 hg4 hg2 hns ho hv2 hlen hbyte
        have y1 := setCell_row w1 (w.heap.size + 1) 0 _ 49 (.int .i64 (k : Int)) (unhide X1)
        have y0 : (w1.setCell ⟨w.heap.size + 1, 0, none⟩ (.int .i64 (k : Int))).heap[w.heap.size]? = _ := (Below.heap_setCell w1 ⟨w.heap.size + 1, 0, none⟩ (.int .i64 (k : Int)) w.heap.size (by simp)).trans (unhide X0)
        have yl : (w1.setCell ⟨w.heap.size + 1, 0, none⟩ (.int .i64 (k : Int))).heap[g]? = w1.heap[g]? := Below.heap_setCell w1 ⟨w.heap.size + 1, 0, none⟩ (.int .i64 (k : Int)) g (by simp; omega)
        have hfy := (unhide HF1).setCell ⟨w.heap.size + 1, 0, none⟩ (.int .i64 (k : Int)) (.inr (by simp))
        have hyz : (w1.setCell ⟨w.heap.size + 1, 0, none⟩ (.int .i64 (k : Int))).heap.size = w1.heap.size := by simp [World.setCell]
        go_upto_region 9 with fail
        generalize hw2 : w1.setCell ⟨w.heap.size + 1, 0, none⟩ (.int .i64 (k : Int)) = w2 at *
        have lc : ∀ j, j < t.length + 1 → w2.cell? ⟨g, j, none⟩ = some (.int .i64 ((a :: t).getD j 0 : Nat)) := fun j hj => by
          rw [cellOf_heap yl]
          have h := unhide HG6 j (by rw [zs_len]; exact hj)
          rw [h, zs_getD]
        have c0 := fun j => cell_of_row w2 _ j _ 49 (0, 0) y0
        have c1 := fun j => cell_of_row w2 _ j _ 49 (0, 0) y1
        have z1 := fun j => frozen_rowE y1 j
        have z0 := fun j => frozen_rowE y0 j
        have l0 := lc 0 (by omega)
        have LC := hide lc
        have Y0 := hide y0
        have Y1 := hide y1
        have HFY := hide hfy
        have hz2 : w.heap.size + 1 < w2.heap.size := by omega
        have hg2 : g < w2.heap.size := by omega
        clear y0 y1 yl hfy hyz hw2 lc X0 X1 HF1 HG6 hz1 hgz hg1 HWW
        have hkk := unhide HKK
        subst hkk
        have hcap : t.length + 1 ≤ vc := by rw [zs_len] at hg3; exact hg3
        by_cases hv1 : vc = 1
        · have ht : t = [] := List.eq_nil_of_length_eq_zero (by omega)
          subst hv1 ht
          have q1 := setCell_row w2 (w.heap.size + 1) 3 _ 49 (.slice (some ⟨g, 0, none⟩) 0 0) (unhide Y1)
          have q0 : (w2.setCell ⟨w.heap.size + 1, 3, none⟩ (.slice (some ⟨g, 0, none⟩) 0 0)).heap[w.heap.size]? = _ := (Below.heap_setCell w2 ⟨w.heap.size + 1, 3, none⟩ (.slice (some ⟨g, 0, none⟩) 0 0) w.heap.size (by simp)).trans (unhide Y0)
          have qf := (unhide HFY).setCell ⟨w.heap.size + 1, 3, none⟩ (.slice (some ⟨g, 0, none⟩) 0 0) (.inr (by simp))
          go_wp2
          generalize hw5 : w2.setCell ⟨w.heap.size + 1, 3, none⟩ (.slice (some ⟨g, 0, none⟩) 0 0) = w5 at *
          have c5 := fun j => cell_of_row w5 _ j _ 49 (0, 0) q1
          have Q0 := hide q0
          have Q1 := hide q1
          have QF := hide qf
          clear q0 q1 qf hw5 c0 c1 z0 z1 l0 LC Y0 Y1 HFY hz2 hg2
          go_loopw [7, 8] (fun u7 u8 wr => u7 = .bool true ∧ u8 = .int .i64 0 ∧ wr = w5) (fun _ _ _ => 0)
          case atStart => exact ⟨rfl, rfl, rfl⟩
          case round =>
            obtain ⟨rfl, rfl, rfl⟩ := hrel
            have hcd : candD 2 [a] = some (2, 0, 0, []) := by simp only [candD]; rw [if_neg (by decide), if_pos trivial]; rfl
            have c0 := True.intro
            have c1 := c5
            have z1 := True.intro
            have z0 := True.intro
            clear c5
            have hbd := fun W => body_files 0 0 (.slice (some ⟨g, 0, none⟩) 0 0) [] (P := fun _ => False) W (fun _ h => h.elim) ⟨_, _, rfl, .inl rfl⟩ (by simp) (fun z hz => absurd hz (by simp))
            go_upto_region 32 with fail
            have q1 := unhide Q1
            have q0 := unhide Q0
            have qf := unhide QF
            obtain ⟨w3, hw3⟩ : ∃ w3, wr = w3 := ⟨_, rfl⟩
            rw [hw3] at q0 q1 qf ⊢
            have d0 := fun j => cell_of_row w3 _ j _ 49 (0, 0) q0
            have d1 := fun j => cell_of_row w3 _ j _ 49 (0, 0) q1
            have u0 := fun j => frozen_rowE q0 j
            have HFQ := hide qf
            have hz3 : w.heap.size + 1 < w3.heap.size := (Array.getElem?_eq_some_iff.1 q1).1
            clear c0 c1 z1 z0 q0 q1 qf hw3
            obtain ⟨B, hB⟩ : ∃ B, batchS [] = B := ⟨_, rfl⟩
            have hpc := parse_cand (unhide HBS) (unhide HNS) hcd (b := B) (by rw [← hB]; exact bs_batch [] 0 0)
            rw [hB] at hbd
            have HBD := hide hbd
            clear hbd hB
            by_cases hBs : B = s
            · have hip := hide (hpc.1 hBs)
              clear hpc
              subst hBs
              go_region_held3 (fun w' => w'.cell? ⟨w.heap.size + 1, 0, none⟩ = some (.int .i64 (2)) ∧ w'.cell? ⟨w.heap.size + 1, 1, none⟩ = some (.int .i64 (0)) ∧ w'.cell? ⟨w.heap.size + 1, 2, none⟩ = some (.int .i64 (0)) ∧ w'.cell? ⟨w.heap.size + 1, 3, none⟩ = some (.slice (some ⟨g, 0, none⟩) 0 0)) (first | (simp [go_sem, d1]; done) | (simp [go_sem, g1]; done)) (first | (go_at_call 112; refine (unhide HBD _).mono ?_; rintro e w4 ⟨rfl, f4⟩; have g0 := fun j => (f4.cell w.heap.size j (by simp; omega) (fun h => h)).trans (d0 j); have g1 := fun j => (f4.cell (w.heap.size + 1) j (by simp; omega) (fun h => h)).trans (d1 j); have v0 := fun j => (f4.frozen w.heap.size j (by simp; omega) (fun h => h)).trans (u0 j); have HF4 := hide ((unhide HFQ).trans (show Fr (fun _ => False) w3 w4 (fun _ => False) from ⟨f4.os, f4.tape, f4.output, f4.size, f4.same, f4.old⟩)); clear f4))
              all_goals
                go_wp2_with fail
                refine bodyPost_ret (v := .tuple #[.agg #[.int .i64 (2), .int .i64 (0), .int .i64 (0), .slice (some ⟨g, 0, none⟩) 0 0], .bool true]) (by simp [results, Tryz.results77, go_sem, g0]) rfl ?_
                refine pd_some (x := (2, 0, 0, [])) (unhide hip) ?_ ?_
                · repeat (first | exact unhide HF4 | refine Fr.drew ?_ | refine Fr.setCell ?_ _ _ (.inr (Nat.le_refl _)))
                · exact ⟨_, _, rfl, .inl rfl⟩
            · have hip := hide (hpc.2 hBs)
              have hbq := str_ne hBs
              clear hpc hBs
              go_region_held3 (fun w' => w'.cell? ⟨w.heap.size + 1, 0, none⟩ = some (.int .i64 (2)) ∧ w'.cell? ⟨w.heap.size + 1, 1, none⟩ = some (.int .i64 (0)) ∧ w'.cell? ⟨w.heap.size + 1, 2, none⟩ = some (.int .i64 (0)) ∧ w'.cell? ⟨w.heap.size + 1, 3, none⟩ = some (.slice (some ⟨g, 0, none⟩) 0 0)) (first | (simp [go_sem, d1]; done) | (simp [go_sem, g1]; done)) (first | (go_at_call 112; refine (unhide HBD _).mono ?_; rintro e w4 ⟨rfl, f4⟩; have g0 := fun j => (f4.cell w.heap.size j (by simp; omega) (fun h => h)).trans (d0 j); have g1 := fun j => (f4.cell (w.heap.size + 1) j (by simp; omega) (fun h => h)).trans (d1 j); have v0 := fun j => (f4.frozen w.heap.size j (by simp; omega) (fun h => h)).trans (u0 j); have HF4 := hide ((unhide HFQ).trans (show Fr (fun _ => False) w3 w4 (fun _ => False) from ⟨f4.os, f4.tape, f4.output, f4.size, f4.same, f4.old⟩)); clear f4))
              all_goals
                go_wp2_with fail
                refine bodyPost_ret (v := .tuple #[.agg #[.int .i64 (2), .int .i64 (0), .int .i64 (0), .slice (some ⟨g, 0, none⟩) 0 0], .bool false]) (by simp [results, Tryz.results77, go_sem, g0, hbq]) rfl ?_
                refine pd_none (unhide hip) ?_
                repeat (first | exact unhide HF4 | refine Fr.drew ?_ | refine Fr.setCell ?_ _ _ (.inr (Nat.le_refl _)))
        have hcap1 : (1 : Int) ≤ (t.length : Int) + 1 := by omega
        have hcap2 : (t.length : Int) + 1 ≤ (vc : Int) := by omega
        have q1 := setCell_row w2 (w.heap.size + 1) 3 _ 49 (.slice (some ⟨g, 1, none⟩) t.length (vc - 1)) (unhide Y1)
        have q0 : (w2.setCell ⟨w.heap.size + 1, 3, none⟩ (.slice (some ⟨g, 1, none⟩) t.length (vc - 1))).heap[w.heap.size]? = _ := (Below.heap_setCell w2 ⟨w.heap.size + 1, 3, none⟩ (.slice (some ⟨g, 1, none⟩) t.length (vc - 1)) w.heap.size (by simp)).trans (unhide Y0)
        have qg : (w2.setCell ⟨w.heap.size + 1, 3, none⟩ (.slice (some ⟨g, 1, none⟩) t.length (vc - 1))).heap[g]? = w2.heap[g]? := Below.heap_setCell w2 ⟨w.heap.size + 1, 3, none⟩ (.slice (some ⟨g, 1, none⟩) t.length (vc - 1)) g (by simp; omega)
        have qf := (unhide HFY).setCell ⟨w.heap.size + 1, 3, none⟩ (.slice (some ⟨g, 1, none⟩) t.length (vc - 1)) (.inr (by simp))
        go_wp2
        generalize hw5 : w2.setCell ⟨w.heap.size + 1, 3, none⟩ (.slice (some ⟨g, 1, none⟩) t.length (vc - 1)) = w5 at *
        have lc5 : ∀ j, j < t.length → w5.cell? ⟨g, 1 + j, none⟩ = some (.int .i64 (t.getD j 0 : Nat)) := fun j hj => by
          rw [cellOf_heap qg, unhide LC (1 + j) (by omega), Nat.add_comm 1 j, List.getD_cons_succ]
        have LC5 := hide lc5
        have Q0 := hide q0
        have Q1 := hide q1
        have QF := hide qf
        have hg5 : g < w5.heap.size := by
          have h1 := (Array.getElem?_eq_some_iff.1 (unhide Q1)).1
          have h2 : (w2.heap[g]?).isSome = true := by rw [Array.getElem?_eq_getElem hg2]; rfl
          rw [← qg] at h2
          obtain ⟨x, hx⟩ := Option.isSome_iff_exists.1 h2
          exact (Array.getElem?_eq_some_iff.1 hx).1
        clear q0 q1 qf qg hw5 lc5 c0 c1 z0 z1 l0 LC Y0 Y1 HFY hz2 hg2
        go_loopw [7, 8] (fun u7 u8 wr => ∃ i : Nat, i ≤ t.length ∧ u8 = .int .i64 i ∧ u7 = .bool (risL (-1) (zs (t.take i))) ∧ Dr w5 wr) (fun _ u8 _ => t.length - (intOf u8).toNat)
        case atStart => exact ⟨0, Nat.zero_le _, rfl, rfl, Dr.refl _⟩
        case round =>
          obtain ⟨i, hi, rfl, rfl, hd⟩ := hrel
          have c1 := fun j => (hd.cell ⟨w.heap.size + 1, j, none⟩).trans (cell_of_row w5 _ j _ 49 (0, 0) (unhide Q1))
          by_cases hlt : i < t.length
          · have e1 := (hd.cell ⟨g, 1 + i, none⟩).trans (unhide LC5 i hlt)
            have hsn : risL (-1) (zs (t.take (i + 1))) = (risL (-1) (zs (t.take i)) && decide (((t.getD i 0 : Nat) : Int) < 8) && decide ((((zs (t.take i)).getLast?).getD (-1)) < ((t.getD i 0 : Nat) : Int))) := by
              have e : t.take (i + 1) = t.take i ++ [t.getD i 0] := by rw [List.take_add_one, List.getD_eq_getElem?_getD, List.getElem?_eq_getElem hlt]; rfl
              rw [e, show zs (t.take i ++ [t.getD i 0]) = zs (t.take i) ++ [((t.getD i 0 : Nat) : Int)] by simp [zs], risL_snoc]
            have hgl : ∀ m, i = m + 1 → ((zs (t.take i)).getLast?).getD (-1) = ((t.getD m 0 : Nat) : Int) := fun m hm => by
              subst hm
              have e : t.take (m + 1) = t.take m ++ [t.getD m 0] := by rw [List.take_add_one, List.getD_eq_getElem?_getD, List.getElem?_eq_getElem (show m < t.length by omega)]; rfl
              rw [e, show zs (t.take m ++ [t.getD m 0]) = zs (t.take m) ++ [((t.getD m 0 : Nat) : Int)] by simp [zs]]
              simp
            have hk0 : (0 : Int) ≤ (i : Int) := by omega
            have hk1 : (i : Int) < (t.length : Int) := by omega
            have HSN := hide hsn
            have HGL := hide hgl
            have HD := hide hd
            clear hsn hgl hd
            cases hR : risL (-1) (zs (t.take i)) with
            | false =>
              have hsn : risL (-1) (zs (t.take (i + 1))) = false := by rw [unhide HSN, hR]; rfl
              have HS2 := hide hsn
              clear hsn hR
              go_wp2_with fail
              go_quiet (fail)
              go_wp2
              go_roundw
              case rel => exact ⟨i + 1, by omega, by go_num, by rw [unhide HS2], (unhide HD).more _⟩
              case measure => simp [intOf]; omega
            | true =>
              generalize hF : t.getD i 0 = F at *
              by_cases h8 : (F : Int) < 8
              · have h8d : decide ((F : Int) < 8) = true := by simpa using h8
                by_cases hi0 : i = 0
                · subst hi0
                  have hsn : risL (-1) (zs (t.take (0 + 1))) = true := by
                    rw [unhide HSN, hR, h8d]
                    have : decide ((((zs (t.take 0)).getLast?).getD (-1)) < (F : Int)) = true := by simp [zs]; omega
                    rw [this]; rfl
                  have HS2 := hide hsn
                  clear hsn hR h8
                  go_wp2_with fail
                  go_quiet (fail)
                  go_wp2
                  go_roundw
                  case rel => exact ⟨0 + 1, by omega, by go_num, by rw [unhide HS2], (unhide HD).more _⟩
                  case measure => simp [intOf]; omega
                · obtain ⟨p, hp⟩ : ∃ p, i = p + 1 := ⟨i - 1, by omega⟩
                  have e2 := ((unhide HD).cell ⟨g, 1 + p, none⟩).trans (unhide LC5 p (by omega))
                  have hgl := unhide HGL p hp
                  generalize hG : t.getD p 0 = G at *
                  have hz0 : ((i : Int) == 0) = false := by simpa using hi0
                  have hw1 : IntKind.i64.wrap ((i : Int) - 1) = (p : Int) := by rw [IntKind.wrap_i64]; omega
                  have hm0 : (0 : Int) ≤ (p : Int) := Int.natCast_nonneg p
                  have hm1 : (p : Int) < (t.length : Int) := Int.ofNat_lt.2 (by omega)
                  have HPI := hide hp
                  have HI0 := hide hi0
                  by_cases hgt : (G : Int) < (F : Int)
                  · have hgd : decide ((G : Int) < (F : Int)) = true := by simpa using hgt
                    have hsn : risL (-1) (zs (t.take (i + 1))) = true := by rw [unhide HSN, hR, h8d, hgl, hgd]; rfl
                    have HS2 := hide hsn
                    have HGN := hide (show decide (G < F) = true by simpa using hgt)
                    clear hsn hR h8 hgt hgl hp hi0 hG hF
                    go_wp2_with fail
                    go_quiet (fail)
                    go_wp2
                    go_roundw
                    case rel => exact ⟨i + 1, by omega, by go_num, by rw [unhide HS2]; first | rfl | exact congrArg Value.bool (unhide HGN), (unhide HD).more _⟩
                    case measure => simp [intOf]; omega
                  · have hgd : decide ((G : Int) < (F : Int)) = false := by simpa using hgt
                    have hsn : risL (-1) (zs (t.take (i + 1))) = false := by rw [unhide HSN, hR, h8d, hgl, hgd]; rfl
                    have HS2 := hide hsn
                    have HGN := hide (show decide (G < F) = false by simpa using hgt)
                    clear hsn hR h8 hgt hgl hp hi0 hG hF
                    go_wp2_with fail
                    go_quiet (fail)
                    go_wp2
                    go_roundw
                    case rel => exact ⟨i + 1, by omega, by go_num, by rw [unhide HS2]; first | rfl | exact congrArg Value.bool (unhide HGN), (unhide HD).more _⟩
                    case measure => simp [intOf]; omega
              · have h8d : decide ((F : Int) < 8) = false := by simpa using h8
                have hsn : risL (-1) (zs (t.take (i + 1))) = false := by rw [unhide HSN, hR, h8d]; rfl
                have HS2 := hide hsn
                clear hsn hR h8
                go_wp2_with fail
                go_quiet (fail)
                go_wp2
                go_roundw
                case rel => exact ⟨i + 1, by omega, by go_num, by rw [unhide HS2], (unhide HD).more _⟩
                case measure => simp [intOf]; omega
          · have hii : i = t.length := by omega
            subst hii
            have hk1 : ¬ (t.length : Int) < (t.length : Int) := by omega
            rw [List.take_length]
            have c0 := fun j => (hd.cell ⟨w.heap.size, j, none⟩).trans (cell_of_row w5 _ j _ 49 (0, 0) (unhide Q0))
            have z1 := True.intro
            have z0 := True.intro
            cases hR : risL (-1) (zs t) with
            | true =>
              have hcd : candD 2 (a :: t) = some (2, 0, 0, t) := by simp only [candD]; rw [if_neg (by decide), if_pos trivial, if_pos hR]
              go_upto_region 32 with fail
              have q1 : wr.heap[w.heap.size + 1]? = _ := (by obtain ⟨m, rfl⟩ := hd; exact unhide Q1)
              have q0 : wr.heap[w.heap.size]? = _ := (by obtain ⟨m, rfl⟩ := hd; exact unhide Q0)
              have qg : ∀ j, j < t.length → wr.cell? ⟨g, 1 + j, none⟩ = some (.int .i64 (t.getD j 0 : Nat)) := fun j hj => (hd.cell _).trans (unhide LC5 j hj)
              have qz : g < wr.heap.size := (by obtain ⟨m, rfl⟩ := hd; exact hg5)
              have qf : Fr (fun _ => False) w wr (fun _ => False) := (by obtain ⟨m, rfl⟩ := hd; exact (unhide QF).drewN m)
              obtain ⟨w3, hw3⟩ : ∃ w3, wr = w3 := ⟨_, rfl⟩
              rw [hw3] at q0 q1 qf qg qz ⊢
              have QG := hide qg
              have QZ := hide qz
              clear qg qz
              have d0 := fun j => cell_of_row w3 _ j _ 49 (0, 0) q0
              have d1 := fun j => cell_of_row w3 _ j _ 49 (0, 0) q1
              have u0 := fun j => frozen_rowE q0 j
              have HFQ := hide qf
              have hz3 : w.heap.size + 1 < w3.heap.size := (Array.getElem?_eq_some_iff.1 q1).1
              clear c0 c1 z1 z0 q0 q1 qf hw3
              have hi3 : IntsIn w3 (.slice (some ⟨g, 1, none⟩) t.length (vc - 1)) (zs t) (fun q => q = g) := ⟨_, _, by rw [zs_len], .inr ⟨g, 1, rfl, rfl, fun j hj => by rw [zs_len] at hj; rw [unhide QG j hj, zs_getD]⟩⟩
              have hbd : ∀ W, Fr (fun _ => False) w3 W (fun _ => False) → _ := fun W hW => body_files 0 0 (.slice (some ⟨g, 1, none⟩) t.length (vc - 1)) (zs t) (P := fun q => q = g) W (fun q hq => by subst hq; exact Nat.lt_of_lt_of_le (unhide QZ) hW.size) (hi3.block (fun q hq => by subst hq; exact hW.same _ (unhide QZ) (fun h => h))) (by have := (risL_len t (-1) (by omega) (by omega) hR).1; rw [zs_len]; omega) (fun z hz => by
                obtain ⟨f, hf, rfl⟩ := List.mem_map.1 hz
                have := (risL_len t (-1) (by omega) (by omega) hR).2 f hf
                exact ⟨Int.natCast_nonneg _, by show (f : Int) < 8; omega⟩)
              have HI3 := hide hi3
              clear hi3
              obtain ⟨B, hB⟩ : ∃ B, batchS (zs t) = B := ⟨_, rfl⟩
              have hpc := parse_cand (unhide HBS) (unhide HNS) hcd (b := B) (by rw [← hB]; exact (by rw [bs_batch (zs t) 0 0, zs_back]))
              simp only [hB] at hbd
              have HBD := hide hbd
              clear hbd hB
              by_cases hBs : B = s
              · have hip := hide (hpc.1 hBs)
                clear hpc
                subst hBs
                go_region_held3 (fun w' => w'.cell? ⟨w.heap.size + 1, 0, none⟩ = some (.int .i64 (2)) ∧ w'.cell? ⟨w.heap.size + 1, 1, none⟩ = some (.int .i64 (0)) ∧ w'.cell? ⟨w.heap.size + 1, 2, none⟩ = some (.int .i64 (0)) ∧ w'.cell? ⟨w.heap.size + 1, 3, none⟩ = some (.slice (some ⟨g, 1, none⟩) t.length (vc - 1))) (first | (simp [go_sem, d1]; done) | (simp [go_sem, g1]; done)) (first | (go_at_call 112; refine (unhide HBD _ (by first | exact Fr.refl _ _ | exact (Fr.refl _ _).drew)).mono ?_; rintro e w4 ⟨rfl, f4⟩; have g0 := fun j => (f4.cell w.heap.size j (by simp; omega) (fun h => h)).trans (d0 j); have g1 := fun j => (f4.cell (w.heap.size + 1) j (by simp; omega) (fun h => h)).trans (d1 j); have v0 := fun j => (f4.frozen w.heap.size j (by simp; omega) (fun h => h)).trans (u0 j); have I4 := hide ((unhide HI3).block (fun q hq => (by subst hq; exact f4.same _ (by have := unhide QZ; simp; omega) (fun h => h) : w4.heap[q]? = w3.heap[q]?))); have I5 := hide (show g < w4.heap.size from Nat.lt_of_lt_of_le (unhide QZ) f4.size); have HF4 := hide ((unhide HFQ).trans (show Fr (fun _ => False) w3 w4 (fun _ => False) from ⟨f4.os, f4.tape, f4.output, f4.size, f4.same, f4.old⟩)); clear f4))
                all_goals
                  go_wp2_with fail
                  refine bodyPost_ret (v := .tuple #[.agg #[.int .i64 (2), .int .i64 (0), .int .i64 (0), .slice (some ⟨g, 1, none⟩) t.length (vc - 1)], .bool true]) (by simp [results, Tryz.results77, go_sem, g0]) rfl ?_
                  refine pd_some (x := (2, 0, 0, t)) (unhide hip) ?_ ?_
                  · repeat (first | exact unhide HF4 | refine Fr.drew ?_ | refine Fr.setCell ?_ _ _ (.inr (Nat.le_refl _)))
                  · exact intsIn_kept (unhide I4) (fun q hq => by rw [show q = g from hq]; iterate 4 rw [Below.heap_setCell _ _ _ _ (by show g ≠ w.heap.size; omega)]) (fun q hq => ⟨by have h : q = g := hq; omega, by have h5 := unhide I5; rw [show q = g from hq]; simpa [World.setCell] using h5⟩)
              · have hip := hide (hpc.2 hBs)
                have hbq := str_ne hBs
                clear hpc hBs
                go_region_held3 (fun w' => w'.cell? ⟨w.heap.size + 1, 0, none⟩ = some (.int .i64 (2)) ∧ w'.cell? ⟨w.heap.size + 1, 1, none⟩ = some (.int .i64 (0)) ∧ w'.cell? ⟨w.heap.size + 1, 2, none⟩ = some (.int .i64 (0)) ∧ w'.cell? ⟨w.heap.size + 1, 3, none⟩ = some (.slice (some ⟨g, 1, none⟩) t.length (vc - 1))) (first | (simp [go_sem, d1]; done) | (simp [go_sem, g1]; done)) (first | (go_at_call 112; refine (unhide HBD _ (by first | exact Fr.refl _ _ | exact (Fr.refl _ _).drew)).mono ?_; rintro e w4 ⟨rfl, f4⟩; have g0 := fun j => (f4.cell w.heap.size j (by simp; omega) (fun h => h)).trans (d0 j); have g1 := fun j => (f4.cell (w.heap.size + 1) j (by simp; omega) (fun h => h)).trans (d1 j); have v0 := fun j => (f4.frozen w.heap.size j (by simp; omega) (fun h => h)).trans (u0 j); have I4 := hide ((unhide HI3).block (fun q hq => (by subst hq; exact f4.same _ (by have := unhide QZ; simp; omega) (fun h => h) : w4.heap[q]? = w3.heap[q]?))); have I5 := hide (show g < w4.heap.size from Nat.lt_of_lt_of_le (unhide QZ) f4.size); have HF4 := hide ((unhide HFQ).trans (show Fr (fun _ => False) w3 w4 (fun _ => False) from ⟨f4.os, f4.tape, f4.output, f4.size, f4.same, f4.old⟩)); clear f4))
                all_goals
                  go_wp2_with fail
                  refine bodyPost_ret (v := .tuple #[.agg #[.int .i64 (2), .int .i64 (0), .int .i64 (0), .slice (some ⟨g, 1, none⟩) t.length (vc - 1)], .bool false]) (by simp [results, Tryz.results77, go_sem, g0, hbq]) rfl ?_
                  refine pd_none (unhide hip) ?_
                  repeat (first | exact unhide HF4 | refine Fr.drew ?_ | refine Fr.setCell ?_ _ _ (.inr (Nat.le_refl _)))
            | false =>
              have HIP := hide (parse_bad (unhide HBS) (unhide HNS) (by simp only [candD]; rw [if_neg (by decide), if_pos trivial, if_neg (by rw [hR]; decide)]))
              go_upto_region 32 with fail
              have q1 : wr.heap[w.heap.size + 1]? = _ := (by obtain ⟨m, rfl⟩ := hd; exact unhide Q1)
              have q0 : wr.heap[w.heap.size]? = _ := (by obtain ⟨m, rfl⟩ := hd; exact unhide Q0)
              have qg : ∀ j, j < t.length → wr.cell? ⟨g, 1 + j, none⟩ = some (.int .i64 (t.getD j 0 : Nat)) := fun j hj => (hd.cell _).trans (unhide LC5 j hj)
              have qz : g < wr.heap.size := (by obtain ⟨m, rfl⟩ := hd; exact hg5)
              have qf : Fr (fun _ => False) w wr (fun _ => False) := (by obtain ⟨m, rfl⟩ := hd; exact (unhide QF).drewN m)
              obtain ⟨w3, hw3⟩ : ∃ w3, wr = w3 := ⟨_, rfl⟩
              rw [hw3] at q0 q1 qf qg qz ⊢
              have QG := hide qg
              have QZ := hide qz
              clear qg qz
              have d0 := fun j => cell_of_row w3 _ j _ 49 (0, 0) q0
              have d1 := fun j => cell_of_row w3 _ j _ 49 (0, 0) q1
              have u0 := fun j => frozen_rowE q0 j
              have HFQ := hide qf
              have hz3 : w.heap.size + 1 < w3.heap.size := (Array.getElem?_eq_some_iff.1 q1).1
              clear c0 c1 z1 z0 q0 q1 qf hw3
              go_region
              all_goals
                go_wp2_with fail
                refine bodyPost_ret (v := .tuple #[.agg #[.int .i64 (2), .int .i64 (0), .int .i64 (0), .slice (some ⟨g, 1, none⟩) t.length (vc - 1)], .bool false]) (by simp [results, Tryz.results77, go_sem, d0]) rfl ?_
                refine pd_none (unhide HIP) ?_
                repeat (first | exact unhide HFQ | refine Fr.drew ?_ | refine Fr.setCell ?_ _ _ (.inr (Nat.le_refl _)))
end Go.Proofs.YtfmbebofllgmoaaGreatDoor
namespace Go.Proofs.YtfmbebofllgmoaaGreatDoor
open Go.RowKit
attribute [local go_sem ↓] Go.wp_at_zero Go.wp_at_succ

set_option maxHeartbeats 4000000 in
set_option maxRecDepth 20000 in
theorem parsed_k3 (s : ByteArray) (hs : s.size ≤ 100) (w : World) (h0 : 0 < s.size) (hkk : byteAt s 0 = 3) : Calls Tryz.prog 77 #[.string s] w (PdPost s w) := by
  obtain ⟨t0, t1⟩ := two_allocsD w.heap (.cells #[.int .i64 0, .int .i64 0, .int .i64 0, .slice none 0 0] 49) (.cells #[.int .i64 0, .int .i64 0, .int .i64 0, .slice none 0 0] 49)
  change ((w.alloc _).alloc _).heap[_]? = _ at t0 t1
  have hfw : Fr (fun _ => False) w ((w.alloc (.cells #[.int .i64 0, .int .i64 0, .int .i64 0, .slice none 0 0] 49)).alloc (.cells #[.int .i64 0, .int .i64 0, .int .i64 0, .slice none 0 0] 49)) (fun _ => False) := ((Fr.refl _ _).alloc _).alloc _
  have HFW := hide hfw
  · obtain ⟨r, hbs, hrl⟩ := bs_cons h0
    obtain ⟨W, hW⟩ : ∃ W, ((w.alloc (.cells #[.int .i64 0, .int .i64 0, .int .i64 0, .slice none 0 0] 49)).alloc (.cells #[.int .i64 0, .int .i64 0, .int .i64 0, .slice none 0 0] 49)) = W := ⟨_, rfl⟩
    have hb1 : bs (s.extract 1 s.size) = r := by rw [bs_extract, hbs]; rfl
    have hsz1 : (s.extract 1 s.size).size = r.length := by rw [← bs_len, hb1]
    have hnd : numsD (s.extract 1 s.size) = nsGo r.length r := by unfold numsD; rw [hb1, hsz1]
    have h111 := numbers_any (s.extract 1 s.size) (by omega) W
    have hbyte := byteAt_eq s 0 h0
    have hblt := byteAt_lt s 0
    obtain ⟨k, hk⟩ : ∃ k, byteAt s 0 = k := ⟨_, rfl⟩
    rw [hk] at hbs hbyte hblt hkk
    have HKK := hide hkk
    clear hkk
    rw [hW] at t0 t1 HFW
    have H111 := hide h111
    have HW := hide hW
    have T0 := hide t0
    have T1 := hide t1
    have HBS := hide hbs
    have HND := hide hnd
    have hi1 : (1 : Int) ≤ (s.size : Int) := by omega
    have hne := str_pos h0
    clear h111 hW t0 t1 hbs hnd hb1 hsz1 hrl
    go_enter Tryz.func77, Tryz.ntmps77
    go_wp2_with fail
    rw [unhide HW]
    go_at_call 111
    refine (unhide H111).mono ?_
    rintro e w1 ⟨f1, hm⟩
    rw [unhide HND] at hm
    have hf1 := (unhide HFW).trans f1
    have x0 := (f1.same _ (Array.getElem?_eq_some_iff.1 (unhide T0)).1 (fun h => h)).trans (unhide T0)
    have x1 := (f1.same _ (Array.getElem?_eq_some_iff.1 (unhide T1)).1 (fun h => h)).trans (unhide T1)
    have hz1 : w.heap.size + 1 < w1.heap.size := (Array.getElem?_eq_some_iff.1 x1).1
    have c0 := fun j => cell_of_row w1 _ j _ 49 (0, 0) x0
    have c1 := fun j => cell_of_row w1 _ j _ 49 (0, 0) x1
    have z0 := fun j => frozen_rowE x0 j
    have z1 := fun j => frozen_rowE x1 j
    have HF1 := hide hf1
    have X0 := hide x0
    have X1 := hide x1
    have HWW := hide f1.size
    have HWZ := hide (show W.heap.size = w.heap.size + 2 by rw [← unhide HW]; simp)
    clear f1 hf1 x0 x1 HFW T0 T1 H111
    cases hns : nsGo r.length r with
    | none =>
      rw [hns] at hm
      have hm' : e = .returned (.tuple #[.slice none 0 0, .bool false]) := hm
      subst hm'
      have hip := hide (parse_nums (unhide HBS) hns)
      clear hm hns
      go_wp2
      refine bodyPost_ret (v := .tuple #[.agg #[.int .i64 0, .int .i64 0, .int .i64 0, .slice none 0 0], .bool false]) (by simp [results, Tryz.results77, go_sem, c0]) rfl ?_
      refine pd_none (unhide hip) ?_
      repeat (first | exact unhide HF1 | refine Fr.setCell ?_ _ _ (.inr (Nat.le_refl _)))
    | some ns =>
      rw [hns] at hm
      obtain ⟨hnl, v, he, ho⟩ := hm
      have hnl : ns.length ≤ 200 := by have h : (s.extract 1 s.size).size ≤ s.size := by simp [ByteArray.size_extract]
                                       omega
      subst he
      obtain ⟨va, vc, rfl⟩ := ownI_slice ho
      rw [zs_len]
      rw [zs_len] at ho
      cases ns with
      | nil =>
        have hip := hide (parse_bad (unhide HBS) hns rfl)
        clear hns ho hnl
        go_wp2
        refine bodyPost_ret (v := .tuple #[.agg #[.int .i64 0, .int .i64 0, .int .i64 0, .slice none 0 0], .bool false]) (by simp [results, Tryz.results77, go_sem, c0]) rfl ?_
        refine pd_none (unhide hip) ?_
        repeat (first | exact unhide HF1 | refine Fr.setCell ?_ _ _ (.inr (Nat.le_refl _)))
      | cons a t =>
        obtain ⟨g, cap, cur, hv, hg1, hg2, hg3, hg4, hg5, hg6⟩ := ownI_parts ho (by simp [zs])
        injection hv with hv1 hv2 hv3
        subst hv1 hv3
        have hgz : g < w1.heap.size := (Array.getElem?_eq_some_iff.1 hg2).1
        have hg1' : w.heap.size + 1 < g := by have := unhide HWZ; omega
        have l0 : w1.cell? ⟨g, 0, none⟩ = some (.int .i64 (a : Nat)) := by have := hg6 0 (by simp [zs]); simpa [zs] using this
        have HG6 := hide hg6
        have HNS := hide hns
        have hlen : (a :: t).length = t.length + 1 := rfl
        rw [hlen]
        have htl : t.length ≤ 200 := by have : (a :: t).length ≤ 200 := by omega
                                        simpa using Nat.le_of_succ_le this
        have ht0 : (0 : Int) < (t.length : Int) + 1 := by omega
        have hkc : ((s[0]'h0).toNat : Int) = (k : Int) := by rw [hbyte]
        clear hg6 hg5 hg4 hg2 hns ho hv2 hlen hbyte
        have y1 := setCell_row w1 (w.heap.size + 1) 0 _ 49 (.int .i64 (k : Int)) (unhide X1)
        have y0 : (w1.setCell ⟨w.heap.size + 1, 0, none⟩ (.int .i64 (k : Int))).heap[w.heap.size]? = _ := (Below.heap_setCell w1 ⟨w.heap.size + 1, 0, none⟩ (.int .i64 (k : Int)) w.heap.size (by simp)).trans (unhide X0)
        have yl : (w1.setCell ⟨w.heap.size + 1, 0, none⟩ (.int .i64 (k : Int))).heap[g]? = w1.heap[g]? := Below.heap_setCell w1 ⟨w.heap.size + 1, 0, none⟩ (.int .i64 (k : Int)) g (by simp; omega)
        have hfy := (unhide HF1).setCell ⟨w.heap.size + 1, 0, none⟩ (.int .i64 (k : Int)) (.inr (by simp))
        have hyz : (w1.setCell ⟨w.heap.size + 1, 0, none⟩ (.int .i64 (k : Int))).heap.size = w1.heap.size := by simp [World.setCell]
        go_upto_region 9 with fail
        generalize hw2 : w1.setCell ⟨w.heap.size + 1, 0, none⟩ (.int .i64 (k : Int)) = w2 at *
        have lc : ∀ j, j < t.length + 1 → w2.cell? ⟨g, j, none⟩ = some (.int .i64 ((a :: t).getD j 0 : Nat)) := fun j hj => by
          rw [cellOf_heap yl]
          have h := unhide HG6 j (by rw [zs_len]; exact hj)
          rw [h, zs_getD]
        have c0 := fun j => cell_of_row w2 _ j _ 49 (0, 0) y0
        have c1 := fun j => cell_of_row w2 _ j _ 49 (0, 0) y1
        have z1 := fun j => frozen_rowE y1 j
        have z0 := fun j => frozen_rowE y0 j
        have l0 := lc 0 (by omega)
        have LC := hide lc
        have Y0 := hide y0
        have Y1 := hide y1
        have HFY := hide hfy
        have hz2 : w.heap.size + 1 < w2.heap.size := by omega
        have hg2 : g < w2.heap.size := by omega
        clear y0 y1 yl hfy hyz hw2 lc X0 X1 HF1 HG6 hz1 hgz hg1 HWW
        have hkk := unhide HKK
        subst hkk
        rcases t with _ | ⟨b, _ | ⟨b2, t⟩⟩
        · have HIP := hide (parse_bad (unhide HBS) (unhide HNS) (by simp only [candD]; rw [if_neg (by decide), if_neg (by decide), if_pos trivial]))
          go_wp2
          refine bodyPost_ret (v := .tuple #[.agg #[.int .i64 3, .int .i64 0, .int .i64 0, .slice none 0 0], .bool false]) (by simp [results, Tryz.results77, go_sem, c0]) rfl ?_
          refine pd_none (unhide HIP) ?_
          repeat (first | exact unhide HFY | refine Fr.setCell ?_ _ _ (.inr (Nat.le_refl _)))
        · have l1 : w2.cell? ⟨g, 1, none⟩ = some (.int .i64 (b : Nat)) := unhide LC 1 (by simp)
          by_cases hba : b < a
          · have hbi : (b : Int) < (a : Int) := by omega
            by_cases h2 : 2 ≤ a
            · have h2i : (2 : Int) ≤ (a : Int) := by omega
              by_cases h8 : a ≤ 8
              · have h8i : (a : Int) ≤ 8 := by omega
                have hcd : candD 3 [a, b] = some (3, a, b, []) := by simp only [candD]; rw [if_neg (by decide), if_neg (by decide), if_pos trivial, if_pos ⟨hba, h2, h8⟩]
                have hbd := fun W => body_two 3 a b (.slice none 0 0) none 0 0 rfl (.inl rfl) (by omega) (by omega) W
                go_upto_region 32 with fail
                have p1 := setCell_row w2 (w.heap.size + 1) 1 _ 49 (.int .i64 (a : Int)) (unhide Y1)
                have q1 := setCell_row _ (w.heap.size + 1) 2 _ 49 (.int .i64 (b : Int)) p1
                have q0 : ((w2.setCell ⟨w.heap.size + 1, 1, none⟩ (.int .i64 (a : Int))).setCell ⟨w.heap.size + 1, 2, none⟩ (.int .i64 (b : Int))).heap[w.heap.size]? = _ := (Below.heap_setCell (w2.setCell ⟨w.heap.size + 1, 1, none⟩ (.int .i64 (a : Int))) ⟨w.heap.size + 1, 2, none⟩ (.int .i64 (b : Int)) w.heap.size (by simp)).trans ((Below.heap_setCell w2 ⟨w.heap.size + 1, 1, none⟩ (.int .i64 (a : Int)) w.heap.size (by simp)).trans (unhide Y0))
                have qf := ((unhide HFY).setCell ⟨w.heap.size + 1, 1, none⟩ (.int .i64 (a : Int)) (.inr (by simp))).setCell ⟨w.heap.size + 1, 2, none⟩ (.int .i64 (b : Int)) (.inr (by simp))
                clear p1
                generalize hw3 : (w2.setCell ⟨w.heap.size + 1, 1, none⟩ (.int .i64 (a : Int))).setCell ⟨w.heap.size + 1, 2, none⟩ (.int .i64 (b : Int)) = w3 at *
                have d0 := fun j => cell_of_row w3 _ j _ 49 (0, 0) q0
                have d1 := fun j => cell_of_row w3 _ j _ 49 (0, 0) q1
                have u0 := fun j => frozen_rowE q0 j
                have HFQ := hide qf
                have hz3 : w.heap.size + 1 < w3.heap.size := (Array.getElem?_eq_some_iff.1 q1).1
                clear c0 c1 z1 z0 q0 q1 qf hw3
                obtain ⟨B, hB⟩ : ∃ B, bodyS 3 a b = B := ⟨_, rfl⟩
                have hpc := parse_cand (unhide HBS) (unhide HNS) hcd (b := B) (by rw [← hB]; exact bs_body2 3 a b [] (.inl rfl))
                rw [hB] at hbd
                have HBD := hide hbd
                clear hbd hB
                by_cases hBs : B = s
                · have hip := hide (hpc.1 hBs)
                  clear hpc
                  subst hBs
                  go_region_held3 (fun w' => w'.cell? ⟨w.heap.size + 1, 0, none⟩ = some (.int .i64 (3)) ∧ w'.cell? ⟨w.heap.size + 1, 1, none⟩ = some (.int .i64 (a : Nat)) ∧ w'.cell? ⟨w.heap.size + 1, 2, none⟩ = some (.int .i64 (b : Nat)) ∧ w'.cell? ⟨w.heap.size + 1, 3, none⟩ = some (.slice none 0 0)) (first | (simp [go_sem, d1]; done) | (simp [go_sem, g1]; done)) (first | (go_at_call 112; refine (unhide HBD _).mono ?_; rintro e w4 ⟨rfl, f4⟩; have g0 := fun j => (f4.cell w.heap.size j (by simp; omega) (fun h => h)).trans (d0 j); have g1 := fun j => (f4.cell (w.heap.size + 1) j (by simp; omega) (fun h => h)).trans (d1 j); have v0 := fun j => (f4.frozen w.heap.size j (by simp; omega) (fun h => h)).trans (u0 j); have HF4 := hide ((unhide HFQ).trans (show Fr (fun _ => False) w3 w4 (fun _ => False) from ⟨f4.os, f4.tape, f4.output, f4.size, f4.same, f4.old⟩)); clear f4))
                  all_goals
                    go_wp2_with fail
                    refine bodyPost_ret (v := .tuple #[.agg #[.int .i64 (3), .int .i64 (a : Nat), .int .i64 (b : Nat), .slice none 0 0], .bool true]) (by simp [results, Tryz.results77, go_sem, g0]) rfl ?_
                    refine pd_some (x := (3, a, b, [])) (unhide hip) ?_ ?_
                    · repeat (first | exact unhide HF4 | refine Fr.drew ?_ | refine Fr.setCell ?_ _ _ (.inr (Nat.le_refl _)))
                    · exact ⟨none, 0, rfl, .inl rfl⟩
                · have hip := hide (hpc.2 hBs)
                  have hbq := str_ne hBs
                  clear hpc hBs
                  go_region_held3 (fun w' => w'.cell? ⟨w.heap.size + 1, 0, none⟩ = some (.int .i64 (3)) ∧ w'.cell? ⟨w.heap.size + 1, 1, none⟩ = some (.int .i64 (a : Nat)) ∧ w'.cell? ⟨w.heap.size + 1, 2, none⟩ = some (.int .i64 (b : Nat)) ∧ w'.cell? ⟨w.heap.size + 1, 3, none⟩ = some (.slice none 0 0)) (first | (simp [go_sem, d1]; done) | (simp [go_sem, g1]; done)) (first | (go_at_call 112; refine (unhide HBD _).mono ?_; rintro e w4 ⟨rfl, f4⟩; have g0 := fun j => (f4.cell w.heap.size j (by simp; omega) (fun h => h)).trans (d0 j); have g1 := fun j => (f4.cell (w.heap.size + 1) j (by simp; omega) (fun h => h)).trans (d1 j); have v0 := fun j => (f4.frozen w.heap.size j (by simp; omega) (fun h => h)).trans (u0 j); have HF4 := hide ((unhide HFQ).trans (show Fr (fun _ => False) w3 w4 (fun _ => False) from ⟨f4.os, f4.tape, f4.output, f4.size, f4.same, f4.old⟩)); clear f4))
                  all_goals
                    go_wp2_with fail
                    refine bodyPost_ret (v := .tuple #[.agg #[.int .i64 (3), .int .i64 (a : Nat), .int .i64 (b : Nat), .slice none 0 0], .bool false]) (by simp [results, Tryz.results77, go_sem, g0, hbq]) rfl ?_
                    refine pd_none (unhide hip) ?_
                    repeat (first | exact unhide HF4 | refine Fr.drew ?_ | refine Fr.setCell ?_ _ _ (.inr (Nat.le_refl _)))
              · have h8i : ¬ (a : Int) ≤ 8 := by omega
                have HIP := hide (parse_bad (unhide HBS) (unhide HNS) (by simp only [candD]; rw [if_neg (by decide), if_neg (by decide), if_pos trivial, if_neg (fun h => h8 h.2.2)]))
                go_upto_region 32 with fail
                have p1 := setCell_row w2 (w.heap.size + 1) 1 _ 49 (.int .i64 (a : Int)) (unhide Y1)
                have q1 := setCell_row _ (w.heap.size + 1) 2 _ 49 (.int .i64 (b : Int)) p1
                have q0 : ((w2.setCell ⟨w.heap.size + 1, 1, none⟩ (.int .i64 (a : Int))).setCell ⟨w.heap.size + 1, 2, none⟩ (.int .i64 (b : Int))).heap[w.heap.size]? = _ := (Below.heap_setCell (w2.setCell ⟨w.heap.size + 1, 1, none⟩ (.int .i64 (a : Int))) ⟨w.heap.size + 1, 2, none⟩ (.int .i64 (b : Int)) w.heap.size (by simp)).trans ((Below.heap_setCell w2 ⟨w.heap.size + 1, 1, none⟩ (.int .i64 (a : Int)) w.heap.size (by simp)).trans (unhide Y0))
                have qf := ((unhide HFY).setCell ⟨w.heap.size + 1, 1, none⟩ (.int .i64 (a : Int)) (.inr (by simp))).setCell ⟨w.heap.size + 1, 2, none⟩ (.int .i64 (b : Int)) (.inr (by simp))
                clear p1
                generalize hw3 : (w2.setCell ⟨w.heap.size + 1, 1, none⟩ (.int .i64 (a : Int))).setCell ⟨w.heap.size + 1, 2, none⟩ (.int .i64 (b : Int)) = w3 at *
                have d0 := fun j => cell_of_row w3 _ j _ 49 (0, 0) q0
                have d1 := fun j => cell_of_row w3 _ j _ 49 (0, 0) q1
                have u0 := fun j => frozen_rowE q0 j
                have HFQ := hide qf
                have hz3 : w.heap.size + 1 < w3.heap.size := (Array.getElem?_eq_some_iff.1 q1).1
                clear c0 c1 z1 z0 q0 q1 qf hw3
                go_region
                all_goals
                  go_wp2_with fail
                  refine bodyPost_ret (v := .tuple #[.agg #[.int .i64 (3), .int .i64 (a : Nat), .int .i64 (b : Nat), .slice none 0 0], .bool false]) (by simp [results, Tryz.results77, go_sem, d0]) rfl ?_
                  refine pd_none (unhide HIP) ?_
                  repeat (first | exact unhide HFQ | refine Fr.drew ?_ | refine Fr.setCell ?_ _ _ (.inr (Nat.le_refl _)))
            · have h2i : ¬ (2 : Int) ≤ (a : Int) := by omega
              have HIP := hide (parse_bad (unhide HBS) (unhide HNS) (by simp only [candD]; rw [if_neg (by decide), if_neg (by decide), if_pos trivial, if_neg (fun h => h2 h.2.1)]))
              go_upto_region 32 with fail
              have p1 := setCell_row w2 (w.heap.size + 1) 1 _ 49 (.int .i64 (a : Int)) (unhide Y1)
              have q1 := setCell_row _ (w.heap.size + 1) 2 _ 49 (.int .i64 (b : Int)) p1
              have q0 : ((w2.setCell ⟨w.heap.size + 1, 1, none⟩ (.int .i64 (a : Int))).setCell ⟨w.heap.size + 1, 2, none⟩ (.int .i64 (b : Int))).heap[w.heap.size]? = _ := (Below.heap_setCell (w2.setCell ⟨w.heap.size + 1, 1, none⟩ (.int .i64 (a : Int))) ⟨w.heap.size + 1, 2, none⟩ (.int .i64 (b : Int)) w.heap.size (by simp)).trans ((Below.heap_setCell w2 ⟨w.heap.size + 1, 1, none⟩ (.int .i64 (a : Int)) w.heap.size (by simp)).trans (unhide Y0))
              have qf := ((unhide HFY).setCell ⟨w.heap.size + 1, 1, none⟩ (.int .i64 (a : Int)) (.inr (by simp))).setCell ⟨w.heap.size + 1, 2, none⟩ (.int .i64 (b : Int)) (.inr (by simp))
              clear p1
              generalize hw3 : (w2.setCell ⟨w.heap.size + 1, 1, none⟩ (.int .i64 (a : Int))).setCell ⟨w.heap.size + 1, 2, none⟩ (.int .i64 (b : Int)) = w3 at *
              have d0 := fun j => cell_of_row w3 _ j _ 49 (0, 0) q0
              have d1 := fun j => cell_of_row w3 _ j _ 49 (0, 0) q1
              have u0 := fun j => frozen_rowE q0 j
              have HFQ := hide qf
              have hz3 : w.heap.size + 1 < w3.heap.size := (Array.getElem?_eq_some_iff.1 q1).1
              clear c0 c1 z1 z0 q0 q1 qf hw3
              go_region
              all_goals
                go_wp2_with fail
                refine bodyPost_ret (v := .tuple #[.agg #[.int .i64 (3), .int .i64 (a : Nat), .int .i64 (b : Nat), .slice none 0 0], .bool false]) (by simp [results, Tryz.results77, go_sem, d0]) rfl ?_
                refine pd_none (unhide HIP) ?_
                repeat (first | exact unhide HFQ | refine Fr.drew ?_ | refine Fr.setCell ?_ _ _ (.inr (Nat.le_refl _)))
          · have hbi : ¬ (b : Int) < (a : Int) := by omega
            have HIP := hide (parse_bad (unhide HBS) (unhide HNS) (by simp only [candD]; rw [if_neg (by decide), if_neg (by decide), if_pos trivial, if_neg (fun h => hba h.1)]))
            go_upto_region 32 with fail
            have p1 := setCell_row w2 (w.heap.size + 1) 1 _ 49 (.int .i64 (a : Int)) (unhide Y1)
            have q1 := setCell_row _ (w.heap.size + 1) 2 _ 49 (.int .i64 (b : Int)) p1
            have q0 : ((w2.setCell ⟨w.heap.size + 1, 1, none⟩ (.int .i64 (a : Int))).setCell ⟨w.heap.size + 1, 2, none⟩ (.int .i64 (b : Int))).heap[w.heap.size]? = _ := (Below.heap_setCell (w2.setCell ⟨w.heap.size + 1, 1, none⟩ (.int .i64 (a : Int))) ⟨w.heap.size + 1, 2, none⟩ (.int .i64 (b : Int)) w.heap.size (by simp)).trans ((Below.heap_setCell w2 ⟨w.heap.size + 1, 1, none⟩ (.int .i64 (a : Int)) w.heap.size (by simp)).trans (unhide Y0))
            have qf := ((unhide HFY).setCell ⟨w.heap.size + 1, 1, none⟩ (.int .i64 (a : Int)) (.inr (by simp))).setCell ⟨w.heap.size + 1, 2, none⟩ (.int .i64 (b : Int)) (.inr (by simp))
            clear p1
            generalize hw3 : (w2.setCell ⟨w.heap.size + 1, 1, none⟩ (.int .i64 (a : Int))).setCell ⟨w.heap.size + 1, 2, none⟩ (.int .i64 (b : Int)) = w3 at *
            have d0 := fun j => cell_of_row w3 _ j _ 49 (0, 0) q0
            have d1 := fun j => cell_of_row w3 _ j _ 49 (0, 0) q1
            have u0 := fun j => frozen_rowE q0 j
            have HFQ := hide qf
            have hz3 : w.heap.size + 1 < w3.heap.size := (Array.getElem?_eq_some_iff.1 q1).1
            clear c0 c1 z1 z0 q0 q1 qf hw3
            go_region
            all_goals
              go_wp2_with fail
              refine bodyPost_ret (v := .tuple #[.agg #[.int .i64 (3), .int .i64 (a : Nat), .int .i64 (b : Nat), .slice none 0 0], .bool false]) (by simp [results, Tryz.results77, go_sem, d0]) rfl ?_
              refine pd_none (unhide HIP) ?_
              repeat (first | exact unhide HFQ | refine Fr.drew ?_ | refine Fr.setCell ?_ _ _ (.inr (Nat.le_refl _)))
        · have hq2 : ¬ (t.length : Int) + 1 + 1 + 1 = 2 := by omega
          have HIP := hide (parse_bad (unhide HBS) (unhide HNS) (by simp only [candD]; rw [if_neg (by decide), if_neg (by decide), if_pos trivial]))
          go_wp2
          refine bodyPost_ret (v := .tuple #[.agg #[.int .i64 3, .int .i64 0, .int .i64 0, .slice none 0 0], .bool false]) (by simp [results, Tryz.results77, go_sem, c0]) rfl ?_
          refine pd_none (unhide HIP) ?_
          repeat (first | exact unhide HFY | refine Fr.setCell ?_ _ _ (.inr (Nat.le_refl _)))
end Go.Proofs.YtfmbebofllgmoaaGreatDoor
