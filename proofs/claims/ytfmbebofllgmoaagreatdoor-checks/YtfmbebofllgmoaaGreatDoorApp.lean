/-
  PROVED HERE: append onto a list of handlers that the call itself has built: what it holds then.
-/
import Derived.Test.YtfmbebofllgmoaaGreatDoorStill
import Derived.Deep.AppendLies
namespace Go.Proofs.YtfmbebofllgmoaaGreatDoor
open Go.RowKit

/-- The list 'a, and behind its first n the list b'. -/
def cat {α : Type} (n : Nat) (a b : Nat → α) : Nat → α := fun i => if i < n then a i else b (i - n)

/-- A list of handlers that the call itself has built since the world w0. -/
def OwnH (w0 w : World) (v : Value) (n : Nat) (l : Nat → Nat) (f : Nat → Nat → O3) : Prop :=
  ∃ xs, w.ownsRow w0.heap.size 31 1 v n xs ∧ ∀ i, i < n → ∃ vi, xs[i]? = some vi ∧ OpsIn w0 vi (l i) (f i)

theorem ownH_nil (w0 w : World) (l : Nat → Nat) (f : Nat → Nat → O3) : OwnH w0 w (.slice none 0 0) 0 l f :=
  ⟨[], World.ownsRow_nil _ _ _ _, fun _ hi => absurd hi (Nat.not_lt_zero _)⟩

theorem ownH_form {w0 w : World} {v : Value} {n : Nat} {l : Nat → Nat} {f : Nat → Nat → O3} (h : OwnH w0 w v n l f) (hb : Below w0.heap.size w0 w) (hn : 0 < n) :
    ∃ g cap, v = .slice (some ⟨g, 0, none⟩) n cap ∧ ∀ i, i < n → ∃ vi, w.cell? ⟨g, i, none⟩ = some vi ∧ OpsIn w vi (l i) (f i) := by
  obtain ⟨xs, ho, hi⟩ := h
  obtain ⟨g, cap, rfl, _, _⟩ := ho.form hn
  refine ⟨g, cap, rfl, fun i hin => ?_⟩
  obtain ⟨vi, h1, h2⟩ := hi i hin
  have hc := ho.cells (g := g) rfl i vi h1
  have hadd : (⟨g, 0, none⟩ : Addr).add i = ⟨g, i, none⟩ := by unfold Addr.add; split <;> simp_all
  rw [hadd] at hc
  exact ⟨vi, hc, opsIn_below hb h2⟩

theorem choose_list (n : Nat) (P : Nat → Value → Prop) (h : ∀ i, i < n → ∃ v, P i v) : ∃ xs : List Value, xs.length = n ∧ ∀ i, i < n → ∃ v, xs[i]? = some v ∧ P i v := by
  induction n with
  | zero => exact ⟨[], rfl, fun i hi => absurd hi (Nat.not_lt_zero _)⟩
  | succ n ih =>
    obtain ⟨xs, hl, hx⟩ := ih (fun i hi => h i (by omega))
    obtain ⟨v, hv⟩ := h n (by omega)
    refine ⟨xs ++ [v], by simp [hl], fun i hi => ?_⟩
    by_cases e : i = n
    · subst e
      exact ⟨v, by rw [List.getElem?_append_right (by omega)]; simp [hl], hv⟩
    · obtain ⟨u, h1, h2⟩ := hx i (by omega)
      exact ⟨u, by rw [List.getElem?_append_left (by omega)]; exact h1, h2⟩

theorem info31' : ∃ i, Tryz.prog.info? 31 = some i ∧ i.zero = some (.slice none 0 0) ∧ i.size = 1 ∧ i.bytes = 24 := by
  have h := info31
  cases hi : Tryz.prog.info? 31 with
  | none => rw [hi] at h; cases h
  | some i =>
    rw [hi] at h
    simp only [Option.map_some, Option.some.injEq, Prod.mk.injEq] at h
    exact ⟨i, rfl, h.1, h.2.1, h.2.2⟩

theorem run_append_none (w : World) (ty : TypeId) (base : Nat) (v : Value) (n c : Nat) (xs : List Value) (hown : w.ownsRow base 31 1 v n xs) :
    (Builtin.append_ #[25, 25] ty #[v, .slice none 0 c]).run Tryz.prog w = .ok v w := by
  obtain ⟨i, hi, _, _, _⟩ := info31'
  rcases hown.2 with ⟨rfl, rfl⟩ | ⟨g, cap, cur, rfl, _, _, hnc, _⟩
  · simp [Builtin.append_, run_underlying Tryz.underlying25, sizeOf, typeInfo, hi, Builtin.lenOf, Builtin.firstCells]
  · simp [Builtin.append_, run_underlying Tryz.underlying25, sizeOf, typeInfo, hi, Builtin.lenOf, Builtin.firstCells, hnc, storeCells]

theorem ownH_append {w0 w : World} {v X : Value} {n m : Nat} {l l' : Nat → Nat} {f f' : Nat → Nat → O3} (hb : Below w0.heap.size w0 w) (h : OwnH w0 w v n l f) (hx : HandsIn w0 X m l' f') (hn : n + m ≤ 1000) (ty : TypeId) :
    ∃ v' w', (Builtin.append_ #[25, 25] ty #[v, X]).run Tryz.prog w = .ok v' w' ∧ OwnH w0 w' v' (n + m) (cat n l l') (cat n f f') ∧ Below w0.heap.size w0 w' := by
  obtain ⟨xs, ho, hi⟩ := h
  obtain ⟨i, hinf, hz, hs1, hby⟩ := info31'
  obtain ⟨a, c, rfl, _, hX⟩ := hx
  have key : ∀ news : List Value, news.length = m → (∀ i, i < m → ∃ vi, news[i]? = some vi ∧ OpsIn w0 vi (l' i) (f' i)) → ∀ w' v', w'.ownsRow w0.heap.size 31 1 v' (n + m) (xs ++ news) → OwnH w0 w' v' (n + m) (cat n l l') (cat n f f') := by
    intro news hl hnew w' v' hown
    refine ⟨xs ++ news, hown, fun j hj => ?_⟩
    have hxl : xs.length = n := by simpa using ho.1
    by_cases e : j < n
    · obtain ⟨vi, h1, h2⟩ := hi j e
      refine ⟨vi, by rw [List.getElem?_append_left (by omega)]; exact h1, ?_⟩
      simpa [cat, e] using h2
    · obtain ⟨vi, h1, h2⟩ := hnew (j - n) (by omega)
      refine ⟨vi, by rw [List.getElem?_append_right (by omega), hxl]; exact h1, ?_⟩
      simpa [cat, e] using h2
  cases a with
  | none =>
    have hm : m = 0 := by
      rcases hX with hX | ⟨b, off, ha, _⟩
      · exact hX
      · cases ha
    subst hm
    refine ⟨v, w, run_append_none w ty _ v n c xs ho, ?_, hb⟩
    exact key [] rfl (fun i hi => absurd hi (Nat.not_lt_zero _)) w v (by simpa using ho)
  | some ad =>
    have hnews : ∃ news : List Value, news.length = m ∧ (∀ i, i < m → ∃ vi, news[i]? = some vi ∧ (w0.cell? (ad.add i) = some vi ∧ OpsIn w0 vi (l' i) (f' i))) := by
      refine choose_list m _ fun i hi => ?_
      rcases hX with hX | ⟨b, off, ha, hX⟩
      · omega
      · obtain ⟨vi, h1, h2⟩ := hX i hi
        cases ha
        have hadd : (⟨b, off, none⟩ : Addr).add i = ⟨b, off + i, none⟩ := by unfold Addr.add; split <;> simp_all
        exact ⟨vi, by rw [hadd]; exact h1, h2⟩
    obtain ⟨news, hl, hnew⟩ := hnews
    have get : ∀ j u, news[j]? = some u → w0.cell? (ad.add j) = some u ∧ OpsIn w0 u (l' j) (f' j) := by
      intro j u hu
      have hj : j < m := by
        have := (List.getElem?_eq_some_iff.1 hu).1
        omega
      obtain ⟨vi, h1, h2⟩ := hnew j hj
      rw [hu] at h1
      cases h1
      exact h2
    obtain ⟨v', w', hr, h2, h3, _⟩ := run_append_own (P := Tryz.prog) w w0.heap.size 25 ty 31 i _ 1 24 Tryz.underlying25 hinf hz hs1 hby rfl (by decide) v n xs ho ad m c news (by omega)
      (fun j u hu => by
        obtain ⟨hc, _⟩ := get j u hu
        exact (hb.cell (World.block_lt_of_cell? w0 _ hc)).trans hc)
      (fun u hu => by
        obtain ⟨j, hj⟩ := List.mem_iff_getElem?.1 hu
        obtain ⟨_, _, hv, _⟩ := (get j u hj).2
        rw [hv]; rfl)
      (by simp only [maxLen]; omega) (by omega) hb.size
    refine ⟨v', w', hr, key news hl (fun i hi => by obtain ⟨vi, h1, h2⟩ := hnew i hi; exact ⟨vi, h1, h2.2⟩) w' v' h2, ?_⟩
    exact hb.grown h3 hb.size (fun k hk => (ho.lt k hk).1)

theorem wpList_app {ops : Array Oper} {rest : List Oper} {o : Oper} {a : Act} {Q : Exit → Act → World → Prop} {w0 w : World} (hgd : o.guard = none) (s x : Operand)
    (ho : o.op = .call { callee := .builtin .append, args := #[s, x], argTypes := #[25, 25] }) {v X : Value} {n m : Nat} {l l' : Nat → Nat} {f f' : Nat → Nat → O3}
    (hs : a.eval s = v) (hx : a.eval x = X) (hb : Below w0.heap.size w0 w) (hown : OwnH w0 w v n l f) (hX : HandsIn w0 X m l' f') (hn : n + m ≤ 1000)
    (h : ∀ v' w', OwnH w0 w' v' (n + m) (cat n l l') (cat n f f') → Below w0.heap.size w0 w' → wpList Tryz.prog ops Q rest (a.put o.dst v') w') : wpList Tryz.prog ops Q (o :: rest) a w := by
  refine wpList_plain hgd fun K hK => ?_
  obtain ⟨v', w', hr, h2, h3⟩ := ownH_append hb hown hX hn o.type
  unfold Oper.wp execOp
  simp only [ho, resolve, invoke, builtin, Sem.run_bind, Sem.run_pure, Result.andThen_ok, List.map_toArray, List.map_cons, List.map_nil, hs, hx, hr]
  exact hK _ _ (h v' w' h2 h3)
end Go.Proofs.YtfmbebofllgmoaaGreatDoor
