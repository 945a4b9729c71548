/-
  PROVED HERE: a source of inputs of a log (the model of a replay), and what a run has heard, kept beside it. what the document's reader makes of a body, as against the reader's own. a run that was recorded is had again by the model of a replay; of the first inputs comes the beginning; other handlers do what a world makes of them that has just what was heard.
-/
import Derived.Test.YtfmbebofllgmoaaGreatDoorProg
import Derived.WalkKit
import Derived.WalkSpells
import Derived.WalkLawsBesides
import Derived.Deep.QuietTactic
import Derived.BigQuiet
import Derived.Deep.RegionHeld3
import Derived.Deep.AppendLies
import Derived.Laws.EntriesVeiled
import Derived.Deep.DrawnRows
import Derived.BigRegion
import Derived.Deep.LoopGhost
import Derived.Deep.MidRow
import Derived.Shelf.SlSortCmp.SmallK
import Derived.Shelf.SlicesG.Cmp
import Derived.Shelf.Small.Bits
import Derived.Deep.RegionLaw
import Derived.Lib.SliceRun
import Derived.Laws.StructEq
import Derived.Laws.BytesString
import Derived.ArgAppend
import Derived.Deep.DeepCutAuto
import Derived.Conc.LoneCalls
import Derived.Calls
import Derived.Tactics
import Derived.KernelRfl
import Derived.Laws.Rows
import Derived.Lib.SlBytesConst
import Derived.Laws.BitsAllLaws
import Derived.Test.YtfmbebofllgmoaaGreatDoorSallar
import Derived.Test.YtfmbebofllgmoaaGreatDoorSallas
namespace Go.Proofs.YtfmbebofllgmoaaGreatDoor
open Go.RowKit

/-- Inputs of a log that may be heard. -/
def VL := { l : List Inp // ∀ x, x ∈ l → Fit x }
/-- An input as it is answered. -/
def inpR (x : Inp) : Rep := ⟨x.1, x.2.1, x.2.2.1, zs x.2.2.2, 0⟩
def divRep : Rep := ⟨0, 0, 0, [], 6⟩
def VL.tail (y : VL) : VL := ⟨y.1.tail, fun x h => y.2 x (List.mem_of_mem_tail h)⟩
/-- What a replay answers where these inputs are next. -/
def repR (l : List Inp) (k o : Int) : Rep := match l with
  | [] => noRep
  | x :: _ => if x.1 = 5 ∧ x.2.2.1 = 5 then noRep else if (x.1 : Int) ≠ k ∨ (x.2.1 : Int) ≠ o then divRep else inpR x
def repAsk (y : VL) (k o : Int) : Rep × VL := (repR y.1 k o, y.tail)
theorem repR_zero {l : List Inp} {k o : Int} (h : (repR l k o).e = 0) : ∃ x r, l = x :: r ∧ repR l k o = inpR x ∧ (x.1 : Int) = k ∧ (x.2.1 : Int) = o := by
  cases l with
  | nil => simp [repR, noRep] at h
  | cons x r =>
    simp only [repR] at h ⊢
    by_cases h5 : x.1 = 5 ∧ x.2.2.1 = 5
    · rw [if_pos h5] at h; simp [noRep] at h
    · rw [if_neg h5] at h ⊢
      by_cases hk : (x.1 : Int) ≠ k ∨ (x.2.1 : Int) ≠ o
      · rw [if_pos hk] at h; simp [divRep] at h
      · rw [if_neg hk]
        exact ⟨x, r, rfl, rfl, by omega, by omega⟩
theorem repR_end (l : List Inp) (k o : Int) : (repR l k o).e = 0 ∨ repR l k o = noRep ∨ repR l k o = divRep := by
  cases l with
  | nil => exact .inr (.inl rfl)
  | cons x r =>
    simp only [repR]
    split
    · exact .inr (.inl rfl)
    · split
      · exact .inr (.inr rfl)
      · exact .inl rfl
theorem Fit.clock {x : Inp} (h : Fit x) (e : x.1 = 1) : x.2.2.1 ≤ 1099511627776 := by
  rcases h with h | h | h | h | h
  · exact h.2.2.1
  all_goals (have := h.1; omega)
theorem Fit.pick {x : Inp} (h : Fit x) (e : x.1 = 3) : x.2.2.1 < x.2.1 := by
  rcases h with h | h | h | h | h
  · have := h.1; omega
  · have := h.1; omega
  · exact h.2.2.2.1
  · have := h.1; omega
  · have := h.1; omega
theorem Fit.files {x : Inp} (h : Fit x) : x.2.2.2.length ≤ 8 ∧ ∀ f, f ∈ x.2.2.2 → f < 8 := by
  have nil : x.2.2.2 = [] → x.2.2.2.length ≤ 8 ∧ ∀ f, f ∈ x.2.2.2 → f < 8 := fun e => by rw [e]; exact ⟨by simp, fun _ h => absurd h (by simp)⟩
  rcases h with h | h | h | h | h
  · exact nil h.2.2.2
  · obtain ⟨g1, g2⟩ := risL_len x.2.2.2 (-1) (by omega) (by omega) h.2.2.2
    exact ⟨by omega, g2⟩
  · exact nil h.2.2.2.2
  · exact nil h.2.2.2.2
  · exact nil h.2.2.2.2
theorem repAsk_ok : SrcOk repAsk (fun y => y.1.length) := by
  refine ⟨?_, ?_, ?_, ?_, ?_, ?_⟩
  · intro y k o; show y.1.tail.length ≤ y.1.length; rw [List.length_tail]; omega
  · intro y h
    obtain ⟨x, r, e, _⟩ := repR_zero h
    show y.1.tail.length < y.1.length
    rw [e]; simp
  · intro y h
    obtain ⟨x, r, e, e2, hk, _⟩ := repR_zero h
    have hx := (y.2 x (by rw [e]; exact List.mem_cons_self ..)).clock (by omega)
    show 0 ≤ (repR y.1 1 0).n ∧ (repR y.1 1 0).n ≤ 1099511627776
    rw [e2]
    show (0 : Int) ≤ (x.2.2.1 : Int) ∧ (x.2.2.1 : Int) ≤ 1099511627776
    omega
  · intro y n _ _ h
    obtain ⟨x, r, e, e2, hk, ho⟩ := repR_zero h
    have hx := (y.2 x (by rw [e]; exact List.mem_cons_self ..)).pick (by omega)
    show 0 ≤ (repR y.1 3 n).n ∧ (repR y.1 3 n).n < n
    rw [e2]
    show (0 : Int) ≤ (x.2.2.1 : Int) ∧ (x.2.2.1 : Int) < n
    omega
  · intro y z h
    change z ∈ (repR y.1 2 0).files at h
    rcases repR_end y.1 2 0 with h0 | h0 | h0
    · obtain ⟨x, r, e, e2, _⟩ := repR_zero h0
      rw [e2] at h
      obtain ⟨f, hf, rfl⟩ := List.mem_map.1 h
      have := (y.2 x (by rw [e]; exact List.mem_cons_self ..)).files.2 f hf
      exact ⟨Int.natCast_nonneg f, by show (f : Int) < 8; omega⟩
    · rw [h0] at h; simp [noRep] at h
    · rw [h0] at h; simp [divRep] at h
  · intro y
    show (repR y.1 2 0).files.length ≤ 8
    rcases repR_end y.1 2 0 with h0 | h0 | h0
    · obtain ⟨x, r, e, e2, _⟩ := repR_zero h0
      rw [e2]
      have := (y.2 x (by rw [e]; exact List.mem_cons_self ..)).files.1
      show (zs x.2.2.2).length ≤ 8
      simp [zs]; exact this
    · rw [h0]; simp [noRep]
    · rw [h0]; simp [divRep]
theorem repAsk_end : EndOk repAsk := by
  intro y k o
  show 0 ≤ (repR y.1 k o).e ∧ (repR y.1 k o).e ≤ 6
  rcases repR_end y.1 k o with h0 | h0 | h0
  · rw [h0]; omega
  · rw [h0]; simp [noRep]
  · rw [h0]; simp [divRep]

/-- A source, what was heard of it, and whether it has ended the run. -/
structure GS (σ : Type) where
  x : σ
  l : List Inp
  z : Bool
/-- An answer as an input. -/
def inpOf (R : Rep) : Inp := (R.kind.toNat, R.of.toNat, R.n.toNat, R.files.map Int.toNat)
def gAsk {σ : Type} (ask : σ → Int → Int → Rep × σ) (y : GS σ) (k o : Int) : Rep × GS σ :=
  if y.z then (noRep, y) else if (ask y.x k o).1.e = 0 then ((ask y.x k o).1, ⟨(ask y.x k o).2, y.l ++ [inpOf (ask y.x k o).1], false⟩) else ((ask y.x k o).1, ⟨(ask y.x k o).2, y.l, true⟩)
section
variable {σ : Type} {ask : σ → Int → Int → Rep × σ} {may : Int → Int → Prop}
theorem gAsk_zero {y : GS σ} {k o : Int} (hz : y.z = false) (h : (ask y.x k o).1.e = 0) : gAsk ask y k o = ((ask y.x k o).1, ⟨(ask y.x k o).2, y.l ++ [inpOf (ask y.x k o).1], false⟩) := by
  unfold gAsk; rw [hz, if_neg (by simp), if_pos h]
theorem gAsk_end {y : GS σ} {k o : Int} (hz : y.z = false) (h : (ask y.x k o).1.e ≠ 0) : gAsk ask y k o = ((ask y.x k o).1, ⟨(ask y.x k o).2, y.l, true⟩) := by
  unfold gAsk; rw [hz, if_neg (by simp), if_neg h]
theorem gAsk_most (h : Most ask) : Most (gAsk ask) := by
  intro y
  unfold gAsk
  split
  · simp [noRep]
  · split
    · exact h y.x
    · exact h y.x
theorem ghost_run (hm : MayOk may) (hM8 : Most ask) {p : Pg} (hp : PgOk p) {I : Int → GS σ → Prop} {E : Int → Prop} {x : σ} (h0 : I 0 ⟨x, [], false⟩)
    (hs : ∀ h y k o, may k o → y.z = false → I h y → (ask y.x k o).1.e = 0 → I (wrap64 (h + 1)) ⟨(ask y.x k o).2, y.l ++ [inpOf (ask y.x k o).1], false⟩)
    (he : ∀ h y k o, may k o → y.z = false → I h y → (ask y.x k o).1.e ≠ 0 → I h ⟨(ask y.x k o).2, y.l, true⟩ ∧ E (ask y.x k o).1.e) (k : Nat) (f : Int) :
    ∃ y, runM (gAsk ask) p k f ⟨x, [], false⟩ = ((runM ask p k f x).1, y) ∧ y.x = (runM ask p k f x).2 ∧ I (runM ask p k f x).1.heard y ∧ (y.z = true → E (runM ask p k f x).1.fin) := by
  have A : Alike ask (gAsk ask) may (fun _ => True) (fun h x y => y.x = x ∧ y.z = false ∧ I h y) (fun e h x y => y.x = x ∧ I h y ∧ E e) (fun _ _ => False) := by
    refine ⟨fun _ _ _ _ => trivial, ?_, fun _ _ _ h => h.elim⟩
    rintro h x y k o hmay ⟨rfl, hz, hi⟩ _
    refine .inl ?_
    by_cases e : (ask y.x k o).1.e = 0
    · rw [gAsk_zero hz e]
      exact ⟨rfl, fun _ => ⟨rfl, rfl, hs h y k o hmay hz hi e⟩, fun h' => absurd e h'⟩
    · rw [gAsk_end hz e]
      exact ⟨rfl, fun h' => absurd h' e, fun _ => ⟨rfl, (he h y k o hmay hz hi e).1, (he h y k o hmay hz hi e).2⟩⟩
  rcases runM_sim A hm hM8 hp k f (x := x) (y := ⟨x, [], false⟩) ⟨rfl, rfl, h0⟩ trivial with ⟨e, hq⟩ | ⟨_, hf⟩
  · refine ⟨(runM (gAsk ask) p k f ⟨x, [], false⟩).2, by rw [e], ?_⟩
    rcases hq with ⟨h1, h2, h3⟩ | ⟨_, h1, h2, h3⟩
    · exact ⟨h1, h3, fun h => by rw [h2] at h; cases h⟩
    · exact ⟨h1, h2, fun _ => h3⟩
  · exact hf.elim

/-- What was heard so far is a beginning of H; where the source has ended the run it is H, and e holds. -/
def Upto (H : List Inp) (e : Prop) (y : GS σ) : Prop := y.l <+: H ∧ (y.z = true → y.l = H ∧ e)
theorem upto_back {H : List Inp} {e : Prop} (y : GS σ) (k o : Int) (h : Upto H e (gAsk ask y k o).2) : Upto H e y := by
  unfold gAsk at h
  by_cases hz : y.z = true
  · rw [if_pos hz] at h; exact h
  · rw [if_neg hz] at h
    refine ⟨?_, fun h' => absurd h' hz⟩
    by_cases he : (ask y.x k o).1.e = 0
    · rw [if_pos he] at h
      exact List.IsPrefix.trans (List.prefix_append _ _) h.1
    · rw [if_neg he] at h; exact h.1
end

/-! ### The recorder's answers -/
theorem zs_toNat : ∀ (l : List Int), (∀ z, z ∈ l → 0 ≤ z) → zs (l.map Int.toNat) = l
  | [], _ => rfl
  | a :: t, h => by
    have h1 := h a (List.mem_cons_self ..)
    have e : zs ((a :: t).map Int.toNat) = (a.toNat : Int) :: zs (t.map Int.toNat) := rfl
    rw [e, zs_toNat t (fun z hz => h z (List.mem_cons_of_mem _ hz)), Int.toNat_of_nonneg h1]
theorem risL_of : ∀ (l : List Int) (last : Int), (∀ z, z ∈ l → last < z ∧ z < 8) → l.Pairwise (· < ·) → risL last l = true
  | [], _, _, _ => rfl
  | a :: t, last, h, hp => by
    have h1 := h a (List.mem_cons_self ..)
    simp only [risL]
    rw [if_neg (by omega)]
    obtain ⟨p1, p2⟩ := List.pairwise_cons.1 hp
    exact risL_of t a (fun z hz => ⟨p1 z hz, (h z (List.mem_cons_of_mem _ hz)).2⟩) p2
theorem filesL_ris (l : List Int) : risL (-1) (filesL l) = true := by
  refine risL_of _ _ (fun z hz => by have := filesL_mem l z hz; omega) ?_
  unfold filesL filesK
  refine List.pairwise_map.2 ?_
  refine List.Pairwise.imp ?_ (List.Pairwise.filter _ List.pairwise_lt_range)
  intro a b h
  omega
theorem bs_one (k : Nat) (h : k < 256) : bs (one k) = [k] := by
  unfold one; rw [bs_push, bs_empty, List.nil_append, UInt8.toNat_ofNat']; congr 1; omega
theorem bs_filesS : ∀ (l : List Int) (r : ByteArray), bs (filesS l r) = bs r ++ vbs (l.map Int.toNat)
  | [], r => by simp [filesS, vbs]
  | a :: t, r => by
    have e : filesS (a :: t) r = filesS t (r ++ varS a.toNat) := rfl
    rw [e, bs_filesS t, bs_append, List.append_assoc]
    rfl
theorem bs_batch (l : List Int) (o n : Nat) : bs (batchS l) = bodyL (2, o, n, l.map Int.toNat) := by
  have e : bodyL (2, o, n, l.map Int.toNat) = 2 :: vbs ((l.map Int.toNat).length :: l.map Int.toNat) := rfl
  rw [e]
  unfold batchS
  rw [bs_filesS, bs_append, bs_one 2 (by omega), vbs_cons, List.length_map]
  simp [vb]
theorem bs_body1 (k o n : Nat) (fs : List Nat) (h : k = 1 ∨ k = 5) : bs (bodyS k 0 n) = bodyL (k, o, n, fs) := by
  have e : bodyL (k, o, n, fs) = k :: (vb n ++ []) := by rcases h with rfl | rfl <;> rfl
  rw [e]
  unfold bodyS
  rw [if_neg (by omega), bs_append, bs_one k (by omega), List.append_nil]
  rfl
theorem bs_body2 (k o n : Nat) (fs : List Nat) (h : k = 3 ∨ k = 4) : bs (bodyS k o n) = bodyL (k, o, n, fs) := by
  have e : bodyL (k, o, n, fs) = k :: (vb o ++ (vb n ++ [])) := by rcases h with rfl | rfl <;> rfl
  rw [e]
  unfold bodyS
  rw [if_pos h, bs_append, bs_append, bs_one k (by omega), List.append_nil, List.append_assoc]
  rfl
theorem bs_frame {b : ByteArray} {x : Inp} (hf : Fit x) (h : bs b = bodyL x) : bs (frameS b) = frL x := by
  have hl := bodyL_len hf
  have hs : b.size = (bodyL x).length := by rw [← bs_len, h]
  unfold frameS frL
  rw [bs_append, bs_append, ← sm_bs, h, hs]
  have : bs (varS (bodyL x).length) = [(bodyL x).length] := vb_small _ (by omega)
  rw [this]; simp
/-- The recorder's answer is an input of the kind that was asked for; it is written down. -/
theorem rec_ans {x : RS} {k o : Int} (hm : mayR k o) (h : (recAsk x k o).1.e = 0) : (recAsk x k o).1.kind = k ∧ (recAsk x k o).1.of = o ∧ Fit (inpOf (recAsk x k o).1) ∧ (inpOf (recAsk x k o).1).1 ≠ 5 ∧ inpR (inpOf (recAsk x k o).1) = (recAsk x k o).1 ∧
    bs (recAsk x k o).2.log = bs x.log ++ frL (inpOf (recAsk x k o).1) ∧ (recAsk x k o).2.left + 1 = x.left := by
  rcases hm with ⟨rfl, rfl⟩ | ⟨rfl, rfl⟩ | ⟨rfl, h2, h8⟩ | ⟨rfl, h1, hM⟩
  · simp only [recAsk, if_true] at h ⊢
    split at h
    · simp [noRep] at h
    · rename_i n r hx
      have hc : 0 ≤ clampC n ∧ clampC n ≤ 1099511627776 := by unfold clampC; omega
      have hf : Fit (1, 0, (clampC n).toNat, []) := .inl ⟨rfl, rfl, by show (clampC n).toNat ≤ _; omega, rfl⟩
      have ei : inpOf ⟨1, 0, clampC n, [], 0⟩ = (1, 0, (clampC n).toNat, []) := rfl
      rw [ei]
      refine ⟨rfl, rfl, hf, by show (1 : Nat) ≠ 5; omega, ?_, ?_, ?_⟩
      · have : ((clampC n).toNat : Int) = clampC n := by omega
        simp [inpR, zs, this]
      · show bs (x.log ++ frameS (bodyS 1 0 (clampC n).toNat)) = _
        rw [bs_append, bs_frame hf (bs_body1 1 0 _ [] (.inl rfl))]
      · simp only [RS.left, hx, List.length_cons]; omega
  · have e1 : ¬ (2 : Int) = 1 := by omega
    simp only [recAsk, e1, if_false, if_true] at h ⊢
    split at h
    · simp [noRep] at h
    · rename_i b r hx
      have hz : ∀ z, z ∈ filesL b.2 → 0 ≤ z := fun z hz => (filesL_mem b.2 z hz).1
      have hf : Fit (2, 0, 0, (filesL b.2).map Int.toNat) := .inr (.inl ⟨rfl, rfl, rfl, by show risL (-1) (zs ((filesL b.2).map Int.toNat)) = true; rw [zs_toNat _ hz]; exact filesL_ris _⟩)
      have ei : inpOf ⟨2, 0, 0, filesL b.2, 0⟩ = (2, 0, 0, (filesL b.2).map Int.toNat) := rfl
      rw [ei]
      refine ⟨rfl, rfl, hf, by show (2 : Nat) ≠ 5; omega, ?_, ?_, ?_⟩
      · show (⟨2, 0, 0, zs ((filesL b.2).map Int.toNat), 0⟩ : Rep) = _
        rw [zs_toNat _ hz]
      · show bs (x.log ++ frameS (batchS (filesL b.2))) = _
        rw [bs_append, bs_frame hf (bs_batch _ 0 0)]
      · simp only [RS.left, hx, List.length_cons]; omega
  · have e1 : ¬ (3 : Int) = 1 := by omega
    have e2 : ¬ (3 : Int) = 2 := by omega
    simp only [recAsk, e1, e2, if_false, if_true] at h ⊢
    split at h
    · simp [noRep] at h
    · rename_i n r hx
      have b1 : 0 ≤ n % o := Int.emod_nonneg _ (by omega)
      have b2 : n % o < o := Int.emod_lt_of_pos _ (by omega)
      have hf : Fit (3, o.toNat, (n % o).toNat, []) := .inr (.inr (.inl ⟨rfl, by show 2 ≤ o.toNat; omega, by show o.toNat ≤ 8; omega, by show (n % o).toNat < o.toNat; omega, rfl⟩))
      have ei : inpOf ⟨3, o, n % o, [], 0⟩ = (3, o.toNat, (n % o).toNat, []) := rfl
      rw [ei]
      refine ⟨rfl, rfl, hf, by show (3 : Nat) ≠ 5; omega, ?_, ?_, ?_⟩
      · have q1 : ((n % o).toNat : Int) = n % o := by omega
        have q2 : (o.toNat : Int) = o := by omega
        simp [inpR, zs, q1, q2]
      · show bs (x.log ++ frameS (bodyS 3 o.toNat (n % o).toNat)) = _
        rw [bs_append, bs_frame hf (bs_body2 3 _ _ [] (.inl rfl))]
      · simp only [RS.left, hx, List.length_cons]; omega
  · have e1 : ¬ (4 : Int) = 1 := by omega
    have e2 : ¬ (4 : Int) = 2 := by omega
    have e3 : ¬ (4 : Int) = 3 := by omega
    simp only [recAsk, e1, e2, e3, if_false] at h ⊢
    split at h
    · simp [noRep] at h
    · rename_i n r hx
      have b1 : 0 ≤ n % o := Int.emod_nonneg _ (by omega)
      have b2 : n % o < o := Int.emod_lt_of_pos _ (by omega)
      have hf : Fit (4, o.toNat, (n % o).toNat, []) := .inr (.inr (.inr (.inl ⟨rfl, by show 1 ≤ o.toNat; omega, by show o.toNat ≤ 1000000; omega, by show (n % o).toNat < o.toNat; omega, rfl⟩)))
      have ei : inpOf ⟨4, o, n % o, [], 0⟩ = (4, o.toNat, (n % o).toNat, []) := rfl
      rw [ei]
      refine ⟨rfl, rfl, hf, by show (4 : Nat) ≠ 5; omega, ?_, ?_, ?_⟩
      · have q1 : ((n % o).toNat : Int) = n % o := by omega
        have q2 : (o.toNat : Int) = o := by omega
        simp [inpR, zs, q1, q2]
      · show bs (x.log ++ frameS (bodyS 4 o.toNat (n % o).toNat)) = _
        rw [bs_append, bs_frame hf (bs_body2 4 _ _ [] (.inr rfl))]
      · simp only [RS.left, hx, List.length_cons]; omega
theorem rec_none (x : RS) (k o : Int) (h : (recAsk x k o).1.e ≠ 0) : recAsk x k o = (noRep, x) := by
  unfold recAsk at h ⊢
  split
  · rename_i hk
    rw [if_pos hk] at h
    split
    · rfl
    · rename_i hx; rw [hx] at h; exact absurd rfl h
  · rename_i hk
    rw [if_neg hk] at h
    split
    · rename_i hk2
      rw [if_pos hk2] at h
      split
      · rfl
      · rename_i hx; rw [hx] at h; exact absurd rfl h
    · rename_i hk2
      rw [if_neg hk2] at h
      split
      · rename_i hk3
        rw [if_pos hk3] at h
        split
        · rfl
        · rename_i hx; rw [hx] at h; exact absurd rfl h
      · rename_i hk3
        rw [if_neg hk3] at h
        split
        · rfl
        · rename_i hx; rw [hx] at h; exact absurd rfl h
end Go.Proofs.YtfmbebofllgmoaaGreatDoor
namespace Go.Proofs.YtfmbebofllgmoaaGreatDoor
open Go.RowKit

/-- The input that kind and numbers may stand for. -/
def candD (k : Nat) : List Nat → Option Inp
  | [] => none
  | a :: t => if k = 1 then (if a ≤ 1099511627776 then some (1, 0, a, []) else none)
    else if k = 2 then (if risL (-1) (zs t) = true then some (2, 0, 0, t) else none)
    else if k = 3 then (match t with | [b] => if b < a ∧ 2 ≤ a ∧ a ≤ 8 then some (3, a, b, []) else none | _ => none)
    else if k = 4 then (match t with | [b] => if b < a ∧ a ≤ 1000000 then some (4, a, b, []) else none | _ => none)
    else if k = 5 then (if 1 ≤ a ∧ a ≤ 5 then some (5, 0, a, []) else none) else none
theorem cand_fit {k : Nat} {ns : List Nat} {x : Inp} (h : candD k ns = some x) : Fit x := by
  cases ns with
  | nil => simp [candD] at h
  | cons a t =>
    simp only [candD] at h
    split at h
    · split at h
      · injection h with h; subst h; exact .inl ⟨rfl, rfl, by assumption, rfl⟩
      · cases h
    split at h
    · split at h
      · injection h with h; subst h; exact .inr (.inl ⟨rfl, rfl, rfl, by assumption⟩)
      · cases h
    split at h
    · split at h
      · split at h
        · injection h with h; subst h; rename_i hh; exact .inr (.inr (.inl ⟨rfl, hh.2.1, hh.2.2, hh.1, rfl⟩))
        · cases h
      · cases h
    split at h
    · split at h
      · split at h
        · injection h with h; subst h; rename_i hh; exact .inr (.inr (.inr (.inl ⟨rfl, by show 1 ≤ a; omega, hh.2, hh.1, rfl⟩)))
        · cases h
      · cases h
    split at h
    · split at h
      · injection h with h; subst h; rename_i hh; exact .inr (.inr (.inr (.inr ⟨rfl, rfl, hh.1, hh.2, rfl⟩)))
      · cases h
    · cases h
theorem cand_of {y : Inp} (h : Fit y) : candD y.1 (nums y) = some y := by
  obtain ⟨k, o, n, fs⟩ := y
  rcases h with ⟨e, h1, h2, h3⟩ | ⟨e, h1, h2, h3⟩ | ⟨e, h1, h2, h3, h4⟩ | ⟨e, h1, h2, h3, h4⟩ | ⟨e, h1, h2, h3, h4⟩ <;> simp only at e h1 h2 h3 <;> subst e
  · subst h1 h3
    show candD 1 [n] = _
    simp only [candD]; rw [if_pos trivial, if_pos h2]
  · subst h1 h2
    show candD 2 (fs.length :: fs) = _
    simp only [candD]; rw [if_neg (by decide), if_pos trivial, if_pos h3]
  · simp only at h4
    subst h4
    show candD 3 [o, n] = _
    simp only [candD]; rw [if_neg (by decide), if_neg (by decide), if_pos trivial, if_pos ⟨h3, h1, h2⟩]
  · simp only at h4
    subst h4
    show candD 4 [o, n] = _
    simp only [candD]; rw [if_neg (by decide), if_neg (by decide), if_neg (by decide), if_pos trivial, if_pos ⟨h3, h2⟩]
  · simp only at h4
    subst h1 h4
    show candD 5 [n] = _
    simp only [candD]; rw [if_neg (by decide), if_neg (by decide), if_neg (by decide), if_neg (by decide), if_pos trivial, if_pos ⟨h2, h3⟩]
theorem nums_lt7 {y : Inp} (h : Fit y) : ∀ n, n ∈ nums y → n < 128 ^ 7 := fun n hn => Nat.lt_of_lt_of_le (h.nums_lt n hn) (by decide)
theorem parse_some {k : Nat} {r : List Nat} {y : Inp} (hb : ∀ x, x ∈ k :: r → x < 256) (h : ipL (k :: r) = some y) : y.1 = k ∧ nsGo r.length r = some (nums y) ∧ candD k (nums y) = some y := by
  obtain ⟨hf, hl⟩ := (ipL_iff _ hb y).1 h
  unfold bodyL at hl
  injection hl with e1 e2
  refine ⟨e1.symm, ?_, by rw [e1]; exact cand_of hf⟩
  rw [e2]
  exact nsGo_vbs (nums y) _ (nums_lt7 hf) (Nat.le_refl _)
section
variable {s : ByteArray} {k : Nat} {r : List Nat}
theorem parse_nums (hbs : bs s = k :: r) (hn : nsGo r.length r = none) : ipL (bs s) = none := by
  cases h : ipL (bs s) with
  | none => rfl
  | some y =>
    rw [hbs] at h
    have := parse_some (by rw [← hbs]; exact bs_lt s) h
    rw [hn] at this
    cases this.2.1
theorem parse_bad {ns : List Nat} (hbs : bs s = k :: r) (hn : nsGo r.length r = some ns) (hc : candD k ns = none) : ipL (bs s) = none := by
  cases h : ipL (bs s) with
  | none => rfl
  | some y =>
    rw [hbs] at h
    obtain ⟨_, h2, h3⟩ := parse_some (by rw [← hbs]; exact bs_lt s) h
    rw [hn] at h2
    injection h2 with h2
    rw [← h2, hc] at h3
    cases h3
theorem parse_cand {ns : List Nat} {x : Inp} (hbs : bs s = k :: r) (hn : nsGo r.length r = some ns) (hc : candD k ns = some x) {b : ByteArray} (hb : bs b = bodyL x) : (b = s → ipL (bs s) = some x) ∧ (b ≠ s → ipL (bs s) = none) := by
  refine ⟨fun e => ?_, fun hne => ?_⟩
  · exact (ipL_iff _ (bs_lt s) x).2 ⟨cand_fit hc, by rw [← hb, e]⟩
  · cases h : ipL (bs s) with
    | none => rfl
    | some y =>
      have h0 := h
      rw [hbs] at h
      obtain ⟨_, h2, h3⟩ := parse_some (by rw [← hbs]; exact bs_lt s) h
      rw [hn] at h2
      injection h2 with h2
      rw [← h2, hc] at h3
      injection h3 with h3
      subst h3
      exact absurd (bs_inj (hb.trans ((ipL_iff _ (bs_lt s) _).1 h0).2.symm)) hne
end
theorem risL_snoc : ∀ (l : List Int) (last f : Int), risL last (l ++ [f]) = (risL last l && decide (f < 8) && decide ((l.getLast?).getD last < f))
  | [], last, f => by
    simp only [List.nil_append, risL]
    by_cases h : f ≤ last ∨ 8 ≤ f
    · rw [if_pos h]
      rcases h with h | h
      · have : ¬ last < f := by omega
        simp [this]
      · have : ¬ f < 8 := by omega
        simp [this]
    · rw [if_neg h]
      have h1 : f < 8 := by omega
      have h2 : last < f := by omega
      simp [h1, h2]
  | x :: t, last, f => by
    have ih := risL_snoc t x f
    simp only [List.cons_append, risL]
    by_cases h : x ≤ last ∨ 8 ≤ x
    · rw [if_pos h, if_pos h]; simp
    · rw [if_neg h, if_neg h, ih]
      congr 2
      cases t with
      | nil => rfl
      | cons y t => simp [List.getLast?_cons]
end Go.Proofs.YtfmbebofllgmoaaGreatDoor
namespace Go.Proofs.YtfmbebofllgmoaaGreatDoor
open Go.RowKit

/-- How a run may end, N being the greatest end. -/
def FinIn (N : Int) (s : PS) : Prop := 0 ≤ s.fin ∧ s.fin ≤ N
section
variable {σ : Type} {ask : σ → Int → Int → Rep × σ} {N : Int}
def EndIn (N : Int) (ask : σ → Int → Int → Rep × σ) : Prop := ∀ x k o, 0 ≤ (ask x k o).1.e ∧ (ask x k o).1.e ≤ N
theorem ckS_in (hN : 4 ≤ N) {s : PS} {R : Rep} (h : FinIn N s) (hR : 0 ≤ R.e ∧ R.e ≤ N) : FinIn N (ckS s R) := by
  unfold ckS
  exact ite_ok (P := FinIn N) (ite_ok (P := FinIn N) ⟨by show (0 : Int) ≤ 4; omega, by show (4 : Int) ≤ N; omega⟩ h) hR
theorem opM_in (hN : 4 ≤ N) (he : EndIn N ask) (o : O3) (s : PS) (x : σ) (h : FinIn N s) : FinIn N (opM ask o s x).1 := by
  unfold opM
  have h1 := ckS_in hN h (he x 1 0)
  repeat' (refine ite_ok (P := fun q : PS × σ => FinIn N q.1) ?_ ?_)
  all_goals first
    | exact h
    | exact ite_ok (P := FinIn N) h1 h1
    | exact ite_ok (P := FinIn N) h (he x 4 _)
    | exact ite_ok (P := FinIn N) h h
    | exact ⟨by show (0 : Int) ≤ 1; omega, by show (1 : Int) ≤ N; omega⟩
theorem hM_in (hN : 4 ≤ N) (he : EndIn N ask) {f : Nat → O3} {n : Nat} : ∀ (k : Nat) (s : PS) (x : σ), FinIn N s → FinIn N (hM ask f n k s x).1
  | 0, _, _, h => h
  | k + 1, s, x, h => by
    unfold hM
    refine ite_ok (P := fun q : PS × σ => FinIn N q.1) (ite_ok (P := fun q : PS × σ => FinIn N q.1) ⟨by show (0 : Int) ≤ 3; omega, by show (3 : Int) ≤ N; omega⟩ ?_) h
    exact hM_in hN he k _ _ (opM_in hN he _ _ _ h)
theorem frM_in (hN : 4 ≤ N) (he : EndIn N ask) (p : Pg) : ∀ (l : List TM) (s : PS) (x : σ), FinIn N s → FinIn N (frM (gT ask p) l s x).1
  | [], _, _, h => h
  | t :: r, s, x, h => by
    unfold frM
    refine ite_ok (P := fun q : PS × σ => FinIn N q.1) h (ite_ok (P := fun q : PS × σ => FinIn N q.1) ?_ (frM_in hN he p r s x h))
    exact frM_in hN he p r _ _ (hM_in hN he _ _ _ h)
theorem wkM_in (hN : 4 ≤ N) (he : EndIn N ask) (p : Pg) : ∀ (k : Nat) (l : List Int) (s : PS) (x : σ), FinIn N s → FinIn N (wkM ask (gF ask p) k l s x).1
  | 0, _, _, _, h => h
  | k + 1, l, s, x, h => by
    have h1 : FinIn N (pk ask l.length s x).2.2.1 := by
      unfold pk
      exact ite_ok (P := fun q : Int × Bool × PS × σ => FinIn N q.2.2.1) h (ite_ok (P := FinIn N) h (he x 3 l.length))
    have h2 : ∀ z x', FinIn N (wk1 (gF ask p) z (pk ask l.length s x).2.2.1 x').1 := fun z x' => by
      unfold wk1
      exact ite_ok (P := fun q : PS × σ => FinIn N q.1) (hM_in hN he _ _ _ h1) h1
    unfold wkM
    exact ite_ok (P := fun q : PS × σ => FinIn N q.1) h (ite_ok (P := fun q : PS × σ => FinIn N q.1) (wkM_in hN he p k _ _ _ (h2 _ _)) h1)
theorem turnM_in (hN : 4 ≤ N) (he : EndIn N ask) (p : Pg) (s : PS) (x : σ) (h : FinIn N s) : FinIn N (turnM ask p s x).1 := by
  have h1 := ckS_in hN h (he x 1 0)
  have h2 := frM_in hN he p (dueS (ckS s (ask x 1 0).1)) _ (ask x 1 0).2 h1
  have h3 : ∀ (s : PS) (x : σ), FinIn N s → FinIn N (wakeM ask p s x).1 := fun s x h => by
    unfold wakeM
    exact ite_ok (P := fun q : PS × σ => FinIn N q.1) (wkM_in hN he p _ _ _ _ h) (he x 2 0)
  unfold turnM
  exact ite_ok (P := fun q : PS × σ => FinIn N q.1) ⟨by show (0 : Int) ≤ 2; omega, by show (2 : Int) ≤ N; omega⟩ (ite_ok (P := fun q : PS × σ => FinIn N q.1) (ite_ok (P := fun q : PS × σ => FinIn N q.1) (h3 _ _ h2) h2) h1)
theorem runM_in (hN : 4 ≤ N) (he : EndIn N ask) (p : Pg) (k : Nat) (f : Int) (x : σ) : FinIn N (runM ask p k f x).1 := by
  have ht : ∀ (k : Nat) (s : PS) (x : σ), FinIn N s → FinIn N (turnsM ask p k s x).1 := by
    intro k
    induction k with
    | zero => intro s x h; exact h
    | succ k ih =>
      intro s x h
      unfold turnsM
      exact ite_ok (P := fun q : PS × σ => FinIn N q.1) (ih _ _ (turnM_in hN he p s x h)) h
  unfold runM
  exact ht k _ _ (hM_in hN he _ _ _ ⟨by show (0 : Int) ≤ 0; omega, by show (0 : Int) ≤ N; omega⟩)
end
theorem recAsk_in : EndIn 5 recAsk := by
  intro x k o
  by_cases h : (recAsk x k o).1.e = 0
  · rw [h]; omega
  · rw [rec_none x k o h]; simp [noRep]

/-- The end of a replay: its own, held against what is next. -/
def endR (own : Int) (l : List Inp) : Int := if own = 5 ∨ own = 6 then own else match l with
  | [] => own
  | x :: _ => if x.1 = 5 ∧ (x.2.2.1 : Int) = own then own else 6
/-- What a replay ends with. -/
def repM (p : Pg) (f : Int) (y : VL) : PS × VL := runM repAsk p (y.1.length + 1) f y

theorem gAsk_ok {σ : Type} {ask : σ → Int → Int → Rep × σ} {mes : σ → Nat} (h : SrcOk ask mes) : SrcOk (gAsk ask) (fun y => mes y.x) := by
  refine ⟨?_, ?_, ?_, ?_, ?_, gAsk_most h.most⟩
  · intro y k o
    unfold gAsk
    split
    · exact Nat.le_refl _
    · split
      · exact h.le y.x k o
      · exact h.le y.x k o
  · intro y he
    unfold gAsk at he ⊢
    split at he
    · simp [noRep] at he
    · rename_i hz
      rw [if_neg hz]
      split at he
      · rename_i h0; rw [if_pos h0]; exact h.lt y.x h0
      · rename_i h0; exact absurd he h0
  · intro y he
    unfold gAsk at he ⊢
    split at he
    · simp [noRep] at he
    · rename_i hz
      rw [if_neg hz]
      split at he
      · rename_i h0; rw [if_pos h0]; exact h.clock y.x h0
      · rename_i h0; exact absurd he h0
  · intro y n h2 h8 he
    unfold gAsk at he ⊢
    split at he
    · simp [noRep] at he
    · rename_i hz
      rw [if_neg hz]
      split at he
      · rename_i h0; rw [if_pos h0]; exact h.pick y.x n h2 h8 h0
      · rename_i h0; exact absurd he h0
  · intro y z hz
    unfold gAsk at hz
    split at hz
    · simp [noRep] at hz
    · split at hz
      · exact h.files y.x z hz
      · exact h.files y.x z hz

theorem frs_snoc (l : List Inp) (x : Inp) : frs (l ++ [x]) = frs l ++ frL x := by unfold frs; simp
theorem bs_head : bs headS = hd3 := by
  unfold headS
  rw [bs_push, bs_push, bs_push, bs_empty]
  rfl
/-- What holds of a recorder and what was heard of it. -/
def RecI (M : Nat) (h : Int) (y : GS RS) : Prop := h = y.l.length ∧ bs y.x.log = hd3 ++ frs y.l ∧ (∀ i, i ∈ y.l → Fit i ∧ i.1 ≠ 5) ∧ y.l.length + y.x.left ≤ M
theorem wrap_succ (n : Nat) (h : n ≤ 50000000) : wrap64 ((n : Int) + 1) = ((n + 1 : Nat) : Int) := by unfold wrap64; omega
theorem recI_step {M : Nat} (hM : M ≤ 50000000) (h : Int) (y : GS RS) (k o : Int) (hm : mayR k o) (_ : y.z = false) (hi : RecI M h y) (he : (recAsk y.x k o).1.e = 0) : RecI M (wrap64 (h + 1)) ⟨(recAsk y.x k o).2, y.l ++ [inpOf (recAsk y.x k o).1], false⟩ := by
  obtain ⟨h1, h2, h3, h4⟩ := hi
  obtain ⟨_, _, a3, a4, _, a6, a7⟩ := rec_ans hm he
  refine ⟨?_, ?_, ?_, ?_⟩
  · show wrap64 (h + 1) = ((y.l ++ [inpOf (recAsk y.x k o).1]).length : Int)
    rw [h1, wrap_succ _ (by omega), List.length_append]; rfl
  · show bs (recAsk y.x k o).2.log = hd3 ++ frs (y.l ++ [inpOf (recAsk y.x k o).1])
    rw [a6, h2, frs_snoc, List.append_assoc]
  · intro i hi
    rcases List.mem_append.1 hi with hi | hi
    · exact h3 i hi
    · rw [List.mem_singleton.1 hi]; exact ⟨a3, a4⟩
  · show (y.l ++ [inpOf (recAsk y.x k o).1]).length + (recAsk y.x k o).2.left ≤ M
    rw [List.length_append]; simp only [List.length_cons, List.length_nil]; omega

/-- A recorded run: what it heard, and how. -/
structure RecRun (p : Pg) (f : Int) (x : RS) (s : PS) (xs : List Inp) : Prop where
  fit : ∀ i, i ∈ xs → Fit i ∧ i.1 ≠ 5
  heard : s.heard = xs.length
  fin : 1 ≤ s.fin ∧ s.fin ≤ 5
  small : xs.length ≤ 50000000
  ghost : ∃ k0 y, (∀ k, k0 ≤ k → runM (gAsk recAsk) p k f ⟨x, [], false⟩ = (s, y)) ∧ y.l = xs ∧ (y.z = true → s.fin = 5)
theorem rec_run {p : Pg} (hp : PgOk p) (f : Int) (lc : List Int) (bt : List (Value × List Int)) (lp ll : List Int) (hN : lc.length + bt.length + lp.length + ll.length ≤ 50000000) :
    ∃ xs, RecRun p f ⟨lc, bt, lp, ll, headS⟩ (recM p f lc bt lp ll).1 xs ∧ bs (recLog (recM p f lc bt lp ll)) = logL xs (recM p f lc bt lp ll).1.fin.toNat ∧ xs.length ≤ lc.length + bt.length + lp.length + ll.length := by
  obtain ⟨y, hrun, hx, hI, hz⟩ := ghost_run mayR_ok recAsk_ok.most hp (I := RecI (lc.length + bt.length + lp.length + ll.length)) (E := fun e => e = 5) (x := (⟨lc, bt, lp, ll, headS⟩ : RS)) ⟨rfl, by rw [bs_head]; simp [frs], fun i h => absurd h (by simp), by show 0 + (lc.length + bt.length + lp.length + ll.length) ≤ lc.length + bt.length + lp.length + ll.length; omega⟩ (recI_step hN)
    (fun h y k o hm hz hi he => ⟨by rw [rec_none y.x k o he]; exact hi, by rw [rec_none y.x k o he]; rfl⟩) (lc.length + 1) f
  have hmore := runM_more (gAsk_ok recAsk_ok) p f ⟨(⟨lc, bt, lp, ll, headS⟩ : RS), [], false⟩ (lc.length + 1) (Nat.lt_succ_self _)
  have hfin := runM_in (by omega) recAsk_in p (lc.length + 1) f (⟨lc, bt, lp, ll, headS⟩ : RS)
  have hne := (runM_more recAsk_ok p f (⟨lc, bt, lp, ll, headS⟩ : RS) (lc.length + 1) (Nat.lt_succ_self _)).1
  have hr : recM p f lc bt lp ll = runM recAsk p (lc.length + 1) f ⟨lc, bt, lp, ll, headS⟩ := rfl
  rw [← hr] at hrun hx hI hz hfin hne
  obtain ⟨i1, i2, i3, i4⟩ := hI
  have hf1 : 1 ≤ (recM p f lc bt lp ll).1.fin ∧ (recM p f lc bt lp ll).1.fin ≤ 5 := by have h1 := hfin.1; have h2 := hfin.2; omega
  refine ⟨y.l, ⟨i3, i1, hf1, by omega, lc.length + 1, y, fun k hk => by rw [hmore.2 k hk, hrun], rfl, hz⟩, ?_, by omega⟩
  have he := fit_end (recM p f lc bt lp ll).1.fin.toNat (by omega) (by omega)
  unfold recLog
  rw [bs_append, ← hx, i2, bs_frame he (bs_body1 5 0 _ [] (.inr rfl)), List.append_assoc]
  rfl

/-- The recorder's answer where it is next in a log. -/
theorem rep_next {x : RS} {k o : Int} (hm : mayR k o) (he : (recAsk x k o).1.e = 0) (r : List Inp) : repR (inpOf (recAsk x k o).1 :: r) k o = (recAsk x k o).1 := by
  obtain ⟨a1, a2, _, a4, a5, _⟩ := rec_ans hm he
  have hk : 0 ≤ k ∧ 0 ≤ o := by
    rcases hm with ⟨rfl, rfl⟩ | ⟨rfl, rfl⟩ | ⟨rfl, h, _⟩ | ⟨rfl, h, _⟩ <;> omega
  have e1 : (((inpOf (recAsk x k o).1).1 : Nat) : Int) = k := by show (((recAsk x k o).1.kind.toNat : Nat) : Int) = k; rw [a1]; omega
  have e2 : (((inpOf (recAsk x k o).1).2.1 : Nat) : Int) = o := by show (((recAsk x k o).1.of.toNat : Nat) : Int) = o; rw [a2]; omega
  simp only [repR]
  rw [if_neg (fun h => a4 h.1), if_neg (by omega), a5]

/-- A run that was recorded is had again. -/
theorem RecRun.same {p : Pg} (hp : PgOk p) {f : Int} {x : RS} {s : PS} {xs : List Inp} (h : RecRun p f x s xs) (y : VL) (hy : y.1 = alls xs s.fin.toNat) : (repM p f y).1 = s ∧ endR s.fin (repM p f y).2.1 = s.fin := by
  obtain ⟨k0, g, hg, hl, hz⟩ := h.ghost
  have hf := h.fin
  have A : Alike (gAsk recAsk) repAsk mayR (Upto xs (s.fin = 5)) (fun _ a b => a.z = false ∧ a.l ++ b.1 = alls xs s.fin.toNat) (fun e _ _ _ => e = 5) (fun _ _ => False) := by
    refine ⟨fun a k o => upto_back a k o, ?_, fun _ _ _ h => h.elim⟩
    rintro t a b k o hm ⟨ha, hab⟩ hG
    refine .inl ?_
    by_cases he : (recAsk a.x k o).1.e = 0
    · rw [gAsk_zero ha he] at hG ⊢
      obtain ⟨r, hr⟩ := hG.1
      have hr' : xs = a.l ++ inpOf (recAsk a.x k o).1 :: r := by rw [← hr]; simp
      have hb : b.1 = inpOf (recAsk a.x k o).1 :: (r ++ [(5, 0, s.fin.toNat, [])]) := by
        unfold alls at hab
        rw [hr', List.append_assoc] at hab
        exact List.append_cancel_left hab
      refine ⟨?_, fun _ => ⟨rfl, ?_⟩, fun h' => absurd he h'⟩
      · show _ = repR b.1 k o
        rw [hb, rep_next hm he]
      · show (a.l ++ [inpOf (recAsk a.x k o).1]) ++ b.1.tail = alls xs s.fin.toNat
        rw [← hab, hb]; simp
    · rw [gAsk_end ha he] at hG ⊢
      obtain ⟨e1, e2⟩ := hG.2 rfl
      have hb : b.1 = [(5, 0, 5, [])] := by
        unfold alls at hab
        have e1' : a.l = xs := e1
        rw [e1', e2] at hab
        exact List.append_cancel_left hab
      have hn := rec_none a.x k o he
      refine ⟨?_, fun h' => absurd h' he, fun _ => by rw [hn]; rfl⟩
      show (recAsk a.x k o).1 = repR b.1 k o
      rw [hb, hn]; rfl
  have hk := runM_more repAsk_ok p f y (y.1.length + 1) (Nat.lt_succ_self _)
  have e1 := hg (k0 + (y.1.length + 1)) (by omega)
  have e2 := hk.2 (k0 + (y.1.length + 1)) (by omega)
  have hsim := runM_sim A mayR_ok (gAsk_most recAsk_ok.most) hp (k0 + (y.1.length + 1)) f (x := ⟨x, [], false⟩) (y := y) ⟨rfl, by rw [hy]; rfl⟩ (by
    rw [e1]; exact ⟨by show g.l <+: xs; rw [hl]; exact List.prefix_refl _, fun h => ⟨hl, hz h⟩⟩)
  rw [e1, e2] at hsim
  change Rl _ _ _ (s, g) (repM p f y) at hsim
  rcases hsim with ⟨es, hq⟩ | ⟨_, hP⟩
  · refine ⟨es.symm, ?_⟩
    rcases hq with ⟨_, hab⟩ | ⟨_, hz5⟩
    · have hab' : xs ++ (repM p f y).2.1 = alls xs s.fin.toNat := by
        have h' : g.l ++ (repM p f y).2.1 = alls xs s.fin.toNat := hab
        rwa [hl] at h'
      have hb : (repM p f y).2.1 = [(5, 0, s.fin.toNat, [])] := by unfold alls at hab'; exact List.append_cancel_left hab'
      unfold endR
      rw [hb]
      split
      · rfl
      · have e5 : ((s.fin.toNat : Nat) : Int) = s.fin := by omega
        simp only [e5, and_self, if_true]
    · have hz5' : s.fin = 5 := hz5
      unfold endR; rw [if_pos (.inl hz5')]
  · exact hP.elim

/-- Of the first inputs comes the beginning. -/
theorem RecRun.torn {p : Pg} (hp : PgOk p) {f : Int} {x : RS} {s : PS} {xs : List Inp} (h : RecRun p f x s xs) (m : Nat) (hm : m ≤ xs.length) (y : VL) (hy : y.1 = xs.take m) :
    (m = xs.length ∧ (repM p f y).1 = s ∧ endR s.fin (repM p f y).2.1 = s.fin) ∨ (m < xs.length ∧ (repM p f y).1.fin = 5 ∧ (repM p f y).1.heard = m ∧ (repM p f y).1.trace <+: s.trace) := by
  obtain ⟨k0, g, hg, hl, hz⟩ := h.ghost
  have hsm := h.small
  have A : Alike (gAsk recAsk) repAsk mayR (Upto xs (s.fin = 5)) (fun t a b => a.z = false ∧ t = (a.l.length : Int) ∧ a.l ++ b.1 = xs.take m) (fun e _ _ _ => e = 5 ∧ xs.length ≤ m) (fun s' t => m < xs.length ∧ t.fin = 5 ∧ t.heard = m ∧ t.trace <+: s'.trace) := by
    refine ⟨fun a k o => upto_back a k o, ?_, fun s1 s2 t ⟨p1, p2, p3, p4⟩ _ ht => ⟨p1, p2, p3, List.IsPrefix.trans p4 ht⟩⟩
    rintro t a b k o hm' ⟨ha, ht, hab⟩ hG
    have hlen := congrArg List.length hab
    rw [List.length_append, List.length_take] at hlen
    by_cases he : (recAsk a.x k o).1.e = 0
    · rw [gAsk_zero ha he] at hG ⊢
      obtain ⟨r, hr⟩ := hG.1
      have hr' : xs = a.l ++ inpOf (recAsk a.x k o).1 :: r := by rw [← hr]; simp
      have hxl : xs.length = a.l.length + (r.length + 1) := by rw [hr', List.length_append, List.length_cons]
      by_cases hlt : a.l.length < m
      · have hb : b.1 = inpOf (recAsk a.x k o).1 :: r.take (m - a.l.length - 1) := by
          rw [hr', List.take_append, List.take_of_length_le (by omega)] at hab
          have := List.append_cancel_left hab
          rw [this]
          obtain ⟨j, hj⟩ : ∃ j, m - a.l.length = j + 1 := ⟨m - a.l.length - 1, by omega⟩
          rw [hj, List.take_succ_cons]; rfl
        refine .inl ⟨?_, fun _ => ⟨rfl, ?_, ?_⟩, fun h' => absurd he h'⟩
        · show _ = repR b.1 k o
          rw [hb, rep_next hm' he]
        · show wrap64 (t + 1) = ((a.l ++ [inpOf (recAsk a.x k o).1]).length : Int)
          rw [ht, wrap_succ _ (by omega), List.length_append]; rfl
        · show (a.l ++ [inpOf (recAsk a.x k o).1]) ++ b.1.tail = xs.take m
          rw [← hab, hb]; simp
      · have hb : b.1 = [] := List.eq_nil_of_length_eq_zero (by omega)
        have hrep : repAsk b k o = (noRep, b.tail) := by unfold repAsk; rw [hb]; rfl
        refine .inr ⟨by rw [hrep]; simp [noRep], fun s1 h1 _ => ⟨fun h' => absurd he h', fun _ s2 hs2 => ⟨by omega, by rw [hrep]; rfl, ?_, hs2⟩⟩⟩
        show s1.heard = m
        rw [h1, ht]; omega
    · rw [gAsk_end ha he] at hG ⊢
      obtain ⟨e1, e2⟩ := hG.2 rfl
      have e1' : a.l = xs := e1
      have hn := rec_none a.x k o he
      rw [e1'] at hlen
      have hb : b.1 = [] := List.eq_nil_of_length_eq_zero (by omega)
      refine .inl ⟨?_, fun h' => absurd h' he, fun _ => ⟨by rw [hn]; rfl, by omega⟩⟩
      show (recAsk a.x k o).1 = repR b.1 k o
      rw [hb, hn]; rfl
  have hk := runM_more repAsk_ok p f y (y.1.length + 1) (Nat.lt_succ_self _)
  have e1 := hg (k0 + (y.1.length + 1)) (by omega)
  have e2 := hk.2 (k0 + (y.1.length + 1)) (by omega)
  have hsim := runM_sim A mayR_ok (gAsk_most recAsk_ok.most) hp (k0 + (y.1.length + 1)) f (x := ⟨x, [], false⟩) (y := y) ⟨rfl, rfl, by rw [hy]; rfl⟩ (by
    rw [e1]; exact ⟨by show g.l <+: xs; rw [hl]; exact List.prefix_refl _, fun h => ⟨hl, hz h⟩⟩)
  rw [e1, e2] at hsim
  change Rl _ _ _ (s, g) (repM p f y) at hsim
  rcases hsim with ⟨es, hq⟩ | ⟨_, p1, p2, p3, p4⟩
  · left
    rcases hq with ⟨_, _, hab⟩ | ⟨_, hz5, hle⟩
    · have hab' : xs ++ (repM p f y).2.1 = xs.take m := by rw [← hl] at hab ⊢; exact hab
      have hlen := congrArg List.length hab'
      rw [List.length_append, List.length_take] at hlen
      have hb : (repM p f y).2.1 = [] := List.eq_nil_of_length_eq_zero (by omega)
      refine ⟨by omega, es.symm, ?_⟩
      unfold endR
      rw [hb]
      split <;> rfl
    · have hz5' : s.fin = 5 := hz5
      exact ⟨by omega, es.symm, by unfold endR; rw [if_pos (.inl hz5')]⟩
  · exact .inr ⟨p1, p2, p3, p4⟩
end Go.Proofs.YtfmbebofllgmoaaGreatDoor
