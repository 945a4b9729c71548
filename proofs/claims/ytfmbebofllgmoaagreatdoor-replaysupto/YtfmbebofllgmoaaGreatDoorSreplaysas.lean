/-
  PROVED HERE: bodies and sums: no body begins another one; one byte turned makes another sum. the document's reader: a number, the numbers of a text. the document's reader: the numbers of a text. logs, read record by record: whole ones, their first bytes, with one byte turned. the reader's beginning: do the bytes begin as a log must?
-/
import Derived.Test.YtfmbebofllgmoaaGreatDoorProg
import Derived.WalkKit
import Derived.WalkSpells
import Derived.WalkLawsBesides
import Derived.Deep.QuietTactic
import Derived.BigQuiet
import Derived.Deep.RegionHeld3
import Derived.Deep.AppendLies
import Derived.Laws.EntriesVeiled
import Derived.Deep.DrawnRows
import Derived.BigRegion
import Derived.Deep.LoopGhost
import Derived.Deep.RegionLaw
import Derived.Lib.SliceRun
import Derived.Laws.BytesString
import Derived.ArgAppend
import Derived.Laws.BitsAllLaws
import Derived.Test.YtfmbebofllgmoaaGreatDoorSreplaysam
namespace Go.Proofs.YtfmbebofllgmoaaGreatDoor
open Go.RowKit

/-- The body of an input, as numbers. -/
def bodyL (x : Inp) : List Nat := x.1 :: vbs (nums x)
theorem vb_le : ∀ (j n : Nat), n < 128 ^ (j + 1) → (vb n).length ≤ j + 1
  | 0, n, h => by rw [vb_small n (by omega)]; simp
  | j + 1, n, h => by
    by_cases hn : n < 128
    · rw [vb_small n hn]; simp
    · rw [vb_great n hn, List.length_cons]
      have h1 : n / 128 < 128 ^ (j + 1) := by rw [Nat.div_lt_iff_lt_mul (by omega)]; rwa [Nat.pow_succ] at h
      have := vb_le j (n / 128) h1
      omega
theorem vb_free (a b : Nat) (t t' : List Nat) (h : vb a ++ t = vb b ++ t') : a = b ∧ t = t' := by
  have ha : ∀ n : Nat, n < 128 ^ (n + 1) := fun n => Nat.lt_trans (Nat.lt_succ_self n) (Nat.lt_pow_self (by omega))
  have hp : ∀ n m : Nat, n ≤ m → n < 128 ^ (m + 1) := fun n m h => Nat.lt_of_le_of_lt h (ha m)
  have h1 := vGo_vb (a + b + 1) 0 0 a t (hp _ _ (by omega)) (by omega) (.inr rfl)
  have h2 := vGo_vb (a + b + 1) 0 0 b t' (hp _ _ (by omega)) (by omega) (.inr rfl)
  rw [h, h2] at h1
  injection h1 with e1 e2
  have e : a = b := by simp at e1; exact e1.symm
  subst e
  exact ⟨rfl, List.append_cancel_left h⟩
theorem vbs_free : ∀ (ns ms t t' : List Nat), ns.length = ms.length → vbs ns ++ t = vbs ms ++ t' → ns = ms ∧ t = t'
  | [], [], _, _, _, h => ⟨rfl, h⟩
  | [], _ :: _, _, _, hl, _ => absurd hl (by simp)
  | _ :: _, [], _, _, hl, _ => absurd hl (by simp)
  | n :: ns, m :: ms, t, t', hl, h => by
    rw [vbs_cons, vbs_cons, List.append_assoc, List.append_assoc] at h
    obtain ⟨rfl, h'⟩ := vb_free _ _ _ _ h
    obtain ⟨rfl, h''⟩ := vbs_free ns ms t t' (by simpa using hl) h'
    exact ⟨rfl, h''⟩
theorem Fit.kind {x : Inp} (h : Fit x) : x.1 = 1 ∨ x.1 = 2 ∨ x.1 = 3 ∨ x.1 = 4 ∨ x.1 = 5 := by
  rcases h with h | h | h | h | h
  · exact .inl h.1
  · exact .inr (.inl h.1)
  · exact .inr (.inr (.inl h.1))
  · exact .inr (.inr (.inr (.inl h.1)))
  · exact .inr (.inr (.inr (.inr h.1)))
/-- What an input is, is told by its kind and numbers. -/
theorem nums_inj {x y : Inp} (hx : Fit x) (hy : Fit y) (hk : x.1 = y.1) (h : nums x = nums y) : x = y := by
  obtain ⟨k, o, n, fs⟩ := x
  obtain ⟨k', o', n', fs'⟩ := y
  simp only at hk
  subst hk
  have h1 := (inpN_iff k (nums (k, o, n, fs)) o n fs).2 ⟨hx, rfl⟩
  have h2 := (inpN_iff k (nums (k, o', n', fs')) o' n' fs').2 ⟨hy, rfl⟩
  rw [← h, h1] at h2
  injection h2 with h2
  rw [h2]
/-- No body is the beginning of another one. -/
theorem bodyL_free {x y : Inp} (hx : Fit x) (hy : Fit y) (t t' : List Nat) (h : bodyL x ++ t = bodyL y ++ t') : x = y ∧ t = t' := by
  unfold bodyL at h
  rw [List.cons_append, List.cons_append] at h
  injection h with hk h
  have hl : (nums x).length = (nums y).length := by
    by_cases h2 : x.1 = 2
    · have h2' : y.1 = 2 := by rw [← hk]; exact h2
      have ex : nums x = x.2.2.2.length :: x.2.2.2 := by unfold nums; rw [if_pos h2]
      have ey : nums y = y.2.2.2.length :: y.2.2.2 := by unfold nums; rw [if_pos h2']
      rw [ex, ey, vbs_cons, vbs_cons, List.append_assoc, List.append_assoc] at h
      have := (vb_free _ _ _ _ h).1
      rw [ex, ey, List.length_cons, List.length_cons, this]
    · have h2' : ¬ y.1 = 2 := by rw [← hk]; exact h2
      unfold nums
      rw [if_neg h2, if_neg h2', hk]
      split <;> rfl
  obtain ⟨e, ht⟩ := vbs_free _ _ _ _ hl h
  exact ⟨nums_inj hx hy hk e, ht⟩

theorem risL_len : ∀ (fs : List Nat) (last : Int), -1 ≤ last → last < 8 → risL last (zs fs) = true → (fs.length : Int) + last ≤ 7 ∧ ∀ f, f ∈ fs → f < 8
  | [], last, _, h8, _ => ⟨by simp; omega, fun _ h => absurd h (by simp)⟩
  | f :: t, last, h1, h8, h => by
    have e : zs (f :: t) = (f : Int) :: zs t := rfl
    rw [e] at h
    simp only [risL] at h
    by_cases hc : (f : Int) ≤ last ∨ 8 ≤ (f : Int)
    · rw [if_pos hc] at h; cases h
    · rw [if_neg hc] at h
      obtain ⟨g1, g2⟩ := risL_len t f (by omega) (by omega) h
      refine ⟨by simp only [List.length_cons]; omega, ?_⟩
      intro x hx
      rcases List.mem_cons.1 hx with rfl | hx
      · omega
      · exact g2 x hx
theorem vbs_small : ∀ (fs : List Nat), (∀ f, f ∈ fs → f < 128) → vbs fs = fs
  | [], _ => rfl
  | f :: t, h => by
    rw [vbs_cons, vb_small f (h f (List.mem_cons_self ..)), vbs_small t (fun x hx => h x (List.mem_cons_of_mem _ hx))]; rfl
theorem Fit.nums_lt {x : Inp} (h : Fit x) : ∀ n, n ∈ nums x → n < 128 ^ 6 := by
  obtain ⟨k, o, n, fs⟩ := x
  rcases h with ⟨e, h1, h2, h3⟩ | ⟨e, h1, h2, h3⟩ | ⟨e, h1, h2, h3, h4⟩ | ⟨e, h1, h2, h3, h4⟩ | ⟨e, h1, h2, h3, h4⟩ <;> simp only at e h1 h2 h3 <;> subst e
  · intro m hm; simp [nums] at hm; omega
  · obtain ⟨g1, g2⟩ := risL_len fs (-1) (by omega) (by omega) h3
    intro m hm
    simp [nums] at hm
    rcases hm with rfl | hm
    · omega
    · have := g2 m hm; omega
  · intro m hm; simp [nums] at hm; omega
  · intro m hm; simp [nums] at hm; omega
  · intro m hm; simp [nums] at hm; omega
theorem bodyL_len {x : Inp} (h : Fit x) : 2 ≤ (bodyL x).length ∧ (bodyL x).length ≤ 10 := by
  obtain ⟨k, o, n, fs⟩ := x
  rcases h with ⟨e, h1, h2, h3⟩ | ⟨e, h1, h2, h3⟩ | ⟨e, h1, h2, h3, h4⟩ | ⟨e, h1, h2, h3, h4⟩ | ⟨e, h1, h2, h3, h4⟩ <;> simp only at e h1 h2 h3 <;> subst e
  · have := vb_le 5 n (by omega)
    have := vb_pos n
    simp only [bodyL, nums, vbs, List.length_cons]
    simp
    omega
  · obtain ⟨g1, g2⟩ := risL_len fs (-1) (by omega) (by omega) h3
    have e : bodyL (2, o, n, fs) = 2 :: fs.length :: fs := by
      have : nums (2, o, n, fs) = fs.length :: fs := rfl
      unfold bodyL
      rw [this, vbs_cons, vb_small _ (by omega), vbs_small fs (fun f hf => by have := g2 f hf; omega)]
      rfl
    rw [e]
    simp only [List.length_cons]
    omega
  · have e : bodyL (3, o, n, fs) = 3 :: (vb o ++ (vb n ++ [])) := rfl
    rw [e, vb_small o (by omega), vb_small n (by omega)]
    simp
  · have e : bodyL (4, o, n, fs) = 4 :: (vb o ++ (vb n ++ [])) := rfl
    have := vb_le 2 n (by omega)
    have := vb_le 2 o (by omega)
    have := vb_pos n
    rw [e, List.length_cons, List.length_append, List.append_nil]
    omega
  · have e : bodyL (5, o, n, fs) = 5 :: (vb n ++ []) := rfl
    rw [e, vb_small n (by omega)]
    simp

/-- What the bytes of a body tell. -/
def ipL (l : List Nat) : Option Inp := match l with
  | [] => none
  | k :: t => (varsL t.length t).bind fun ns => (inpN k ns).map fun r => (k, r)
theorem ipL_iff (l : List Nat) (hb : ∀ x, x ∈ l → x < 256) (x : Inp) : ipL l = some x ↔ Fit x ∧ l = bodyL x := by
  obtain ⟨k, o, n, fs⟩ := x
  cases l with
  | nil => simp [ipL, bodyL]
  | cons c t =>
    have hbt : ∀ x, x ∈ t → x < 256 := fun x hx => hb x (List.mem_cons_of_mem _ hx)
    constructor
    · intro h
      simp only [ipL] at h
      obtain ⟨ns, h1, h2⟩ := Option.bind_eq_some_iff.1 h
      obtain ⟨⟨o', n', fs'⟩, h3, h4⟩ := Option.map_eq_some_iff.1 h2
      injection h4 with e1 e2
      injection e2 with e2 e3
      injection e3 with e3 e4
      subst e1 e2 e3 e4
      obtain ⟨g1, g2⟩ := (inpN_iff c ns o' n' fs').1 h3
      obtain ⟨g3, _⟩ := (varsL_iff t.length t ns (Nat.le_refl _) hbt).1 h1
      exact ⟨g1, by unfold bodyL; rw [← g2, ← g3]⟩
    · rintro ⟨hf, h⟩
      unfold bodyL at h
      injection h with e1 e2
      simp only at e1
      subst e1
      have h1 := (varsL_iff t.length t (nums (c, o, n, fs)) (Nat.le_refl _) hbt).2 ⟨e2, hf.nums_lt⟩
      have h3 := (inpN_iff c (nums (c, o, n, fs)) o n fs).2 ⟨hf, rfl⟩
      simp only [ipL, h1, Option.bind_some, h3, Option.map_some]
theorem ipL_bs (b : ByteArray) (h0 : 0 < b.size) : ipL (bs b) = (inpM b).map fun r => (byteAt b 0, r) := by
  have hl := bs_len b
  have he := bs_extract b 1
  have hz : (b.extract 1 b.size).size = b.size - 1 := by simp [ByteArray.size_extract]
  cases h : bs b with
  | nil => rw [h] at hl; simp at hl; omega
  | cons k t =>
    have hk : byteAt b 0 = k := by rw [byteAt_bs, h]; rfl
    have ht : bs (b.extract 1 b.size) = t := by rw [he, h]; rfl
    have hn : (b.extract 1 b.size).size = t.length := by rw [← bs_len, ht]
    unfold inpM varsM
    rw [hk, ht, hn]
    simp only [ipL]
    cases varsL t.length t with
    | none => rfl
    | some ns => rfl

/-! ### The sum -/
def smB (l : List Nat) : ByteArray := ⟨(l.map UInt8.ofNat).toArray⟩
theorem smB_bs (b : ByteArray) : smB (bs b) = b := by
  obtain ⟨⟨l⟩⟩ := b
  simp only [smB, bs, List.map_map]
  have : (UInt8.ofNat ∘ UInt8.toNat) = id := by funext x; simp
  rw [this, List.map_id]
/-- The four bytes of the sum, as numbers. -/
def sm (l : List Nat) : List Nat := bs (sumS (smB l))
theorem sm_bs (b : ByteArray) : sm (bs b) = bs (sumS b) := by unfold sm; rw [smB_bs]
theorem sumStep_range (z : Int) (b : UInt8) : 0 ≤ sumStep z b ∧ sumStep z b < 4294967296 := by
  unfold sumStep; omega
theorem mulN_inj (a b : Nat) (ha : a < 4294967296) (hb : b < 4294967296) (h : a * 16777619 % 4294967296 = b * 16777619 % 4294967296) : a = b := by
  have pq : 16777619 * 899433627 % 4294967296 = 1 := by decide
  have e : ∀ c : Nat, c < 4294967296 → c * 16777619 % 4294967296 * 899433627 % 4294967296 = c := by
    intro c hc
    rw [Nat.mod_mul_mod, Nat.mul_assoc, Nat.mul_mod, pq, Nat.mul_one, Nat.mod_mod, Nat.mod_eq_of_lt hc]
  rw [← e a ha, h, e b hb]
theorem mul_inj (a b : Nat) (ha : a < 4294967296) (hb : b < 4294967296) (h : (a : Int) * 16777619 % 4294967296 = (b : Int) * 16777619 % 4294967296) : a = b := by
  refine mulN_inj a b ha hb ?_
  have e : ∀ c : Nat, (c : Int) * 16777619 % 4294967296 = ((c * 16777619 % 4294967296 : Nat) : Int) := fun c => by rw [Int.natCast_emod, Int.natCast_mul]; rfl
  rw [e, e] at h
  exact Int.ofNat_inj.1 h
theorem xor_inj (a b c : Nat) (h : a ^^^ c = b ^^^ c) : a = b := by
  have : a ^^^ c ^^^ c = b ^^^ c ^^^ c := by rw [h]
  rwa [Nat.xor_assoc, Nat.xor_assoc, Nat.xor_self, Nat.xor_zero, Nat.xor_zero] at this
theorem sumStep_eq (z : Int) (b : UInt8) (hz : 0 ≤ z ∧ z < 4294967296) : sumStep z b = ((z.toNat ^^^ b.toNat : Nat) : Int) * 16777619 % 4294967296 := by
  have hb := UInt8.toNat_lt b
  have e : (b.toNat : Int) % 4294967296 = (b.toNat : Int) := by omega
  unfold sumStep
  rw [e, u32_xor z _ hz.1 hz.2 (by omega) (by omega), Int.toNat_natCast]
theorem xor_range (z : Int) (b : UInt8) (hz : 0 ≤ z ∧ z < 4294967296) : z.toNat ^^^ b.toNat < 4294967296 := by
  have hb := UInt8.toNat_lt b
  exact Nat.xor_lt_two_pow (x := z.toNat) (y := b.toNat) (n := 32) (by omega) (by omega)
theorem sumStep_inj (z z' : Int) (b : UInt8) (hz : 0 ≤ z ∧ z < 4294967296) (hz' : 0 ≤ z' ∧ z' < 4294967296) (h : sumStep z b = sumStep z' b) : z = z' := by
  rw [sumStep_eq z b hz, sumStep_eq z' b hz'] at h
  have h1 := mul_inj _ _ (xor_range z b hz) (xor_range z' b hz') h
  have h2 := xor_inj z.toNat z'.toNat b.toNat h1
  omega
theorem sumStep_byte (z : Int) (b b' : UInt8) (hz : 0 ≤ z ∧ z < 4294967296) (h : sumStep z b = sumStep z b') : b = b' := by
  rw [sumStep_eq z b hz, sumStep_eq z b' hz] at h
  have h1 := mul_inj _ _ (xor_range z b hz) (xor_range z b' hz) h
  have h2 : z.toNat ^^^ b.toNat = z.toNat ^^^ b'.toNat := h1
  rw [Nat.xor_comm, Nat.xor_comm z.toNat] at h2
  exact UInt8.toNat_inj.1 (xor_inj _ _ _ h2)
theorem fold_range (l : List UInt8) : ∀ z : Int, (0 ≤ z ∧ z < 4294967296) → 0 ≤ l.foldl sumStep z ∧ l.foldl sumStep z < 4294967296 := by
  induction l with
  | nil => intro z h; exact h
  | cons b r ih => intro z _; exact ih _ (sumStep_range z b)
theorem fold_inj (l : List UInt8) : ∀ z z' : Int, (0 ≤ z ∧ z < 4294967296) → (0 ≤ z' ∧ z' < 4294967296) → l.foldl sumStep z = l.foldl sumStep z' → z = z' := by
  induction l with
  | nil => intro z z' _ _ h; exact h
  | cons b r ih => intro z z' hz hz' h; exact sumStep_inj z z' b hz hz' (ih _ _ (sumStep_range z b) (sumStep_range z' b) h)
theorem start_range : (0 : Int) ≤ 2166136261 ∧ (2166136261 : Int) < 4294967296 := ⟨by omega, by omega⟩
theorem sumZ_range (l : List UInt8) : 0 ≤ sumZ l ∧ sumZ l < 4294967296 := fold_range l 2166136261 start_range
theorem sumZ_one (l r : List UInt8) (x y : UInt8) (h : sumZ (l ++ x :: r) = sumZ (l ++ y :: r)) : x = y := by
  have e : ∀ u : UInt8, sumZ (l ++ u :: r) = r.foldl sumStep (sumStep (sumZ l) u) := fun u => by unfold sumZ; rw [List.foldl_append, List.foldl_cons]
  rw [e x, e y] at h
  exact sumStep_byte (sumZ l) x y (sumZ_range l) (fold_inj r _ _ (sumStep_range _ x) (sumStep_range _ y) h)
theorem bs_b4 (z : Int) : bs (b4 z) = [(z / 16777216 % 256).toNat, (z / 65536 % 256).toNat, (z / 256 % 256).toNat, (z % 256).toNat] := by
  unfold b4
  simp only [bs_push, bs_empty, List.nil_append, UInt8.toNat_ofNat', List.cons_append]
  congr 1
  · omega
  · congr 1
    · omega
    · congr 1
      · omega
      · congr 1; omega
theorem b4_inj (z z' : Int) (hz : 0 ≤ z ∧ z < 4294967296) (hz' : 0 ≤ z' ∧ z' < 4294967296) (h : bs (b4 z) = bs (b4 z')) : z = z' := by
  rw [bs_b4 z, bs_b4 z'] at h
  injection h with h1 h
  injection h with h2 h
  injection h with h3 h
  injection h with h4 _
  omega
theorem sm_len (l : List Nat) : (sm l).length = 4 := by
  unfold sm sumS
  rw [bs_b4]; rfl
/-- One byte turned: another sum. -/
theorem sm_one (l r : List Nat) (x y : Nat) (hx : x < 256) (hy : y < 256) (h : sm (l ++ x :: r) = sm (l ++ y :: r)) : x = y := by
  unfold sm sumS at h
  have h1 := b4_inj _ _ (sumZ_range _) (sumZ_range _) h
  simp only [smB, List.map_append, List.map_cons] at h1
  have h2 := sumZ_one _ _ _ _ h1
  have := congrArg UInt8.toNat h2
  simp only [UInt8.toNat_ofNat'] at this
  omega
end Go.Proofs.YtfmbebofllgmoaaGreatDoor
namespace Go.Proofs.YtfmbebofllgmoaaGreatDoor
open Go.RowKit
attribute [local go_sem ↓] Go.wp_at_zero Go.wp_at_succ

/-- A number read by the document: places left, place, number so far, bytes left. -/
def nGo : Nat → Nat → Nat → List Nat → Nat × Nat
  | 0, _, _, _ => (0, 0)
  | _ + 1, _, _, [] => (0, 0)
  | f + 1, k, n, x :: t => if 128 ≤ x then nGo f (k + 1) (n + x % 128 * 128 ^ k) t else (n + x * 128 ^ k, k + 1)
theorem nGo_nil (f k n : Nat) : nGo f k n [] = (0, 0) := by cases f <;> rfl
theorem nGo_more (f k n x : Nat) (t : List Nat) (h : 128 ≤ x) : nGo (f + 1) k n (x :: t) = nGo f (k + 1) (n + x % 128 * 128 ^ k) t := by
  simp only [nGo]; rw [if_pos h]
theorem nGo_done (f k n x : Nat) (t : List Nat) (h : x < 128) : nGo (f + 1) k n (x :: t) = (n + x * 128 ^ k, k + 1) := by
  simp only [nGo]; rw [if_neg (by omega)]
theorem nGo_vb : ∀ (f k acc n : Nat) (t : List Nat), n < 128 ^ f → 0 < f → nGo f k acc (vb n ++ t) = (acc + n * 128 ^ k, k + (vb n).length)
  | 0, _, _, _, _, _, h => absurd h (Nat.lt_irrefl 0)
  | f + 1, k, acc, n, t, hn, _ => by
    by_cases h : n < 128
    · rw [vb_small n h]
      rw [List.singleton_append, nGo_done f k acc n t h]
      rfl
    · rw [vb_great n h, List.cons_append, nGo_more _ _ _ _ _ (by omega)]
      have h1 : n / 128 < 128 ^ f := by rw [Nat.div_lt_iff_lt_mul (by omega)]; rwa [Nat.pow_succ] at hn
      have hf : 0 < f := by
        cases f with
        | zero => simp at h1; omega
        | succ f => omega
      rw [nGo_vb f (k + 1) _ (n / 128) t h1 hf]
      have e : (n % 128 + 128) % 128 = n % 128 := by omega
      rw [e, List.length_cons]
      have e2 : acc + n % 128 * 128 ^ k + n / 128 * 128 ^ (k + 1) = acc + n * 128 ^ k := by
        rw [Nat.pow_succ, Nat.add_assoc, Nat.mul_comm (128 ^ k) 128, ← Nat.mul_assoc, ← Nat.add_mul]
        congr 2; omega
      rw [e2]
      congr 1; omega
theorem nGo_le : ∀ (f k n : Nat) (l : List Nat), (nGo f k n l).2 ≤ k + l.length ∧ ((nGo f k n l).2 = 0 ∨ k < (nGo f k n l).2)
  | 0, _, _, _ => ⟨Nat.zero_le _, .inl rfl⟩
  | _ + 1, _, _, [] => ⟨Nat.zero_le _, .inl rfl⟩
  | f + 1, k, n, x :: t => by
    by_cases h : 128 ≤ x
    · rw [nGo_more _ _ _ _ _ h]
      have := nGo_le f (k + 1) (n + x % 128 * 128 ^ k) t
      rw [List.length_cons]
      omega
    · rw [nGo_done _ _ _ _ _ (by omega)]
      simp
/-- The number at the head of a text. -/
def numD (s : ByteArray) : Nat × Nat := nGo 7 0 0 (bs s)
def NRel (s : ByteArray) (w : World) (h u i : Value) (wr : World) : Prop :=
  wr = w ∧ ∃ f k n : Nat, k ≤ s.size ∧ f + k = 7 ∧ h = .int .i64 n ∧ u = .int .i64 ((128 ^ k : Nat) : Int) ∧ i = .int .i64 k ∧ n < 128 ^ k ∧ nGo f k n ((bs s).drop k) = numD s

set_option maxHeartbeats 4000000 in
set_option maxRecDepth 20000 in
theorem number_any (s : ByteArray) (hs : s.size ≤ 1000000000) (w : World) : Calls Tryz.prog 131 #[.string s] w fun e w' => e = .returned (.tuple #[.int .i64 (numD s).1, .int .i64 (numD s).2]) ∧ w' = w := by
  go_enter Tryz.func131, Tryz.ntmps131
  go_wp2
  go_loopw [4, 5, 6] (fun h u i wr => NRel s w h u i wr) (fun _ _ i _ => 7 - (intOf i).toNat)
  case atStart => exact ⟨rfl, 7, 0, 0, Nat.zero_le _, rfl, rfl, rfl, rfl, by decide, rfl⟩
  case round =>
    obtain ⟨rfl, f, k, n, hk, hk6, rfl, rfl, rfl, hn, hv⟩ := hrel
    by_cases hlt : k < s.size ∧ k < 7
    · obtain ⟨hlt, hlt6⟩ := hlt
      have e0 := byteAt_eq s k hlt
      have hb := byteAt_lt s k
      rw [bs_drop s k hlt, e0] at hv
      rw [e0] at hb
      clear e0
      obtain ⟨f, rfl⟩ : ∃ g, f = g + 1 := ⟨f - 1, by omega⟩
      by_cases hx : (128 : Int) ≤ ((s[k]'hlt).toNat : Int)
      · rw [nGo_more _ _ _ _ _ (by omega)] at hv
        have HV := hide hv
        clear hv
        rcases (by omega : k = 0 ∨ k = 1 ∨ k = 2 ∨ k = 3 ∨ k = 4 ∨ k = 5 ∨ k = 6) with rfl | rfl | rfl | rfl | rfl | rfl | rfl
        all_goals
          go_wp2
          go_roundw
          case rel =>
            refine ⟨rfl, _, _, _, ?_, ?_, ?_, ?_, ?_, ?_, unhide HV⟩
            · omega
            · omega
            · exact congrArg (Value.int .i64) (by omega)
            · rfl
            · rfl
            · omega
          case measure => simp [intOf]
      · rw [nGo_done _ _ _ _ _ (by omega)] at hv
        have HV := hide hv
        clear hv
        rcases (by omega : k = 0 ∨ k = 1 ∨ k = 2 ∨ k = 3 ∨ k = 4 ∨ k = 5 ∨ k = 6) with rfl | rfl | rfl | rfl | rfl | rfl | rfl
        all_goals
          go_wp2
          refine bodyPost_ret (v := .tuple #[.int .i64 (numD s).1, .int .i64 (numD s).2]) ?_ rfl ⟨rfl, rfl⟩
          rw [← unhide HV]
          simp [results, Tryz.results131, go_sem]
          omega
    · have e : nGo f k n ((bs s).drop k) = (0, 0) := by
        by_cases h : k < s.size
        · rw [(by omega : f = 0)]; rfl
        · rw [bs_end s k (by omega), nGo_nil]
      rw [e] at hv
      have HV := hide hv
      clear hv e
      by_cases h1 : (k : Int) < (s.size : Int)
      · have h2 : ¬ (k : Int) < 7 := by omega
        go_wp2
        refine bodyPost_ret (v := .tuple #[.int .i64 0, .int .i64 0]) (by simp [results, Tryz.results131, go_sem]) rfl ?_
        exact ⟨by rw [← unhide HV]; rfl, rfl⟩
      · go_wp2
        refine bodyPost_ret (v := .tuple #[.int .i64 0, .int .i64 0]) (by simp [results, Tryz.results131, go_sem]) rfl ?_
        exact ⟨by rw [← unhide HV]; rfl, rfl⟩
end Go.Proofs.YtfmbebofllgmoaaGreatDoor
namespace Go.Proofs.YtfmbebofllgmoaaGreatDoor
open Go.RowKit
attribute [local go_sem ↓] Go.wp_at_zero Go.wp_at_succ

/-- The numbers of a text (at most so many), or none. -/
def nsGo : Nat → List Nat → Option (List Nat)
  | 0, l => if l = [] then some [] else none
  | f + 1, l => if l = [] then some [] else if (nGo 7 0 0 l).2 = 0 then none else (nsGo f (l.drop (nGo 7 0 0 l).2)).map fun r => (nGo 7 0 0 l).1 :: r
def numsD (s : ByteArray) : Option (List Nat) := nsGo s.size (bs s)
theorem nsGo_vbs : ∀ (ns : List Nat) (f : Nat), (∀ n, n ∈ ns → n < 128 ^ 7) → (vbs ns).length ≤ f → nsGo f (vbs ns) = some ns
  | [], f, _, _ => by cases f <;> rfl
  | n :: r, 0, _, hf => by
    rw [vbs_cons, List.length_append] at hf
    have := vb_pos n
    omega
  | n :: r, f + 1, hn, hf => by
    have hp := vb_pos n
    rw [vbs_cons, List.length_append] at hf
    have hne : vbs (n :: r) ≠ [] := by
      rw [vbs_cons]
      intro e
      have := congrArg List.length e
      rw [List.length_append] at this
      simp at this
      rw [this.1] at hp
      simp at hp
    have hg := nGo_vb 7 0 0 n (vbs r) (hn n (List.mem_cons_self ..)) (by omega)
    rw [← vbs_cons] at hg
    simp only [nsGo, if_neg hne]
    rw [hg]
    simp only [Nat.zero_add, Nat.pow_zero, Nat.mul_one]
    rw [if_neg (by omega), vbs_cons, List.drop_left, nsGo_vbs r f (fun m hm => hn m (List.mem_cons_of_mem _ hm)) (by omega)]
    rfl
def NsRel (s0 : ByteArray) (w : World) (s v : Value) (wr : World) : Prop :=
  ∃ (s' : ByteArray) (ns : List Nat) (f : Nat), s = .string s' ∧ s'.size ≤ f ∧ s'.size + ns.length ≤ s0.size ∧ OwnI wr w.heap.size v (zs ns) ∧ (nsGo f (bs s')).map (ns ++ ·) = numsD s0 ∧ Fr (fun _ => False) w wr (fun _ => False)

def NsPost (s : ByteArray) (w : World) (e : Ending) (w' : World) : Prop :=
  Fr (fun _ => False) w w' (fun _ => False) ∧ match numsD s with
  | none => e = .returned (.tuple #[.slice none 0 0, .bool false])
  | some ns => ns.length ≤ s.size ∧ ∃ v, e = .returned (.tuple #[v, .bool true]) ∧ OwnI w' w.heap.size v (zs ns)
theorem npost_none {s : ByteArray} {w w' : World} {e : Ending} (hv : numsD s = none) (he : e = .returned (.tuple #[.slice none 0 0, .bool false])) (hf : Fr (fun _ => False) w w' (fun _ => False)) : NsPost s w e w' := by
  unfold NsPost; rw [hv]; exact ⟨hf, he⟩
theorem npost_some {s : ByteArray} {w w' : World} {e : Ending} {v : Value} {ns : List Nat} (hv : numsD s = some ns) (hl : ns.length ≤ s.size) (he : e = .returned (.tuple #[v, .bool true])) (ho : OwnI w' w.heap.size v (zs ns)) (hf : Fr (fun _ => False) w w' (fun _ => False)) : NsPost s w e w' := by
  unfold NsPost; rw [hv]; exact ⟨hf, hl, v, he, ho⟩

set_option maxHeartbeats 2000000 in
set_option maxRecDepth 20000 in
theorem numbers_any (s : ByteArray) (hs : s.size ≤ 1000) (w : World) : Calls Tryz.prog 111 #[.string s] w (NsPost s w) := by
  go_enter Tryz.func111, Tryz.ntmps111
  go_wp2
  go_loopw [0, 4] (fun h v wr => NsRel s w h v wr) (fun h _ _ => strSz h)
  case atStart => exact ⟨s, [], s.size, rfl, Nat.le_refl _, Nat.le_refl _, World.ownsRow_nil _ _ _ _, by simp [numsD], Fr.refl _ w⟩
  case round =>
    obtain ⟨s', ns, f, rfl, hf, hl, ho, hv, hfr⟩ := hrel
    have hsz : w.heap.size ≤ wr.heap.size := hfr.size
    have HO := hide ho
    have HNE := hide ho.lt
    have HF := hide hfr
    have HLE := hide (show (zs ns).length ≤ 1000 by simp [zs]; omega)
    clear ho hfr
    by_cases h0 : 0 < s'.size
    · have hb := str_pos h0
      have hne : bs s' ≠ [] := fun e => absurd h0 (bs_nil.1 e)
      obtain ⟨f, rfl⟩ : ∃ g, f = g + 1 := ⟨f - 1, by omega⟩
      simp only [nsGo, if_neg hne] at hv
      have hle := (nGo_le 7 0 0 (bs s')).1
      rw [bs_len, Nat.zero_add] at hle
      have hc := number_any s' (by omega)
      unfold numD at hc
      have HV := hide hv
      have HC := hide hc
      clear hv hc
      generalize hx : nGo 7 0 0 (bs s') = x at *
      obtain ⟨n, k⟩ := x
      by_cases hk : k = 0
      · subst hk
        go_wp2_with (go_at_call 131; refine ((unhide HC) _).mono ?_; rintro _ _ ⟨rfl, rfl⟩)
        exact bodyPost_ret (v := .tuple #[.slice none 0 0, .bool false]) (by simp [results, Tryz.results111, go_sem]) rfl (npost_none (by rw [← unhide HV]; rfl) rfl (unhide HF))
      · go_wp2_with first
          | (go_at_call 131; refine ((unhide HC) _).mono ?_; rintro _ _ ⟨rfl, rfl⟩)
          | (at_builtin; refine wpList_int rfl (.tmp 17) (.tmp 19) rfl rfl rfl (unhide HO) (unhide HLE) hsz ?_; intro v' w' o' g')
        have hse : (s'.extract k s'.size).size = s'.size - k := by simp [ByteArray.size_extract]
        go_roundw
        case rel =>
          refine ⟨_, ns ++ [n], f, rfl, by omega, by simp; omega, by simpa [zs] using o', ?_, ((unhide HF).alloc _).grown g' (fun j hj => ((unhide HNE) j hj).1)⟩
          rw [← unhide HV, if_neg hk, bs_extract]
          cases nsGo f ((bs s').drop k) <;> simp
        case measure => simp only [strSz]; omega
    · cases str_zero h0
      have hvs : numsD s = some ns := by
        have e : bs ⟨#[]⟩ = [] := rfl
        rw [← hv, e]
        cases f <;> simp [nsGo]
      have hns : ns.length ≤ s.size := by
        have : (⟨#[]⟩ : ByteArray).size = 0 := rfl
        omega
      clear hv hl
      go_wp2
      exact bodyPost_ret (v := .tuple #[u4, .bool true]) (by simp [results, Tryz.results111, go_sem]) rfl (npost_some hvs hns rfl (unhide HO) (unhide HF))
end Go.Proofs.YtfmbebofllgmoaaGreatDoor
namespace Go.Proofs.YtfmbebofllgmoaaGreatDoor
open Go.RowKit

/-- The record of an input, as numbers. -/
def frL (x : Inp) : List Nat := (bodyL x).length :: (bodyL x ++ sm (bodyL x))
theorem frL_len (x : Inp) : (frL x).length = (bodyL x).length + 5 := by
  unfold frL; rw [List.length_cons, List.length_append, sm_len]
/-- The record with which bytes begin (what it tells, how long it is), or why there is none. -/
def rcL (l : List Nat) : Nat ⊕ (Inp × Nat) := match l with
  | [] => .inl 2
  | n :: t => if 128 ≤ n ∧ t = [] then .inl 2 else if n < 1 ∨ 40 < n then .inl 4 else if t.length < n + 4 then .inl 2 else if sm (t.take n) ≠ (t.drop n).take 4 then .inl 3 else match ipL (t.take n) with
    | none => .inl 4
    | some x => .inr (x, n + 5)
theorem rcL_size (l : List Nat) (x : Inp) (k : Nat) (h : rcL l = .inr (x, k)) : 0 < k ∧ k ≤ l.length := by
  cases l with
  | nil => simp [rcL] at h
  | cons n t =>
    simp only [rcL] at h
    split at h
    · cases h
    split at h
    · cases h
    split at h
    · cases h
    split at h
    · cases h
    split at h
    · cases h
    · injection h with h
      injection h with _ h
      rw [List.length_cons]
      omega
theorem sm_lt (l : List Nat) : ∀ x, x ∈ sm l → x < 256 := bs_lt _
theorem vb_lt (n : Nat) : ∀ x, x ∈ vb n → x < 256 := bs_lt _
theorem bodyL_lt {x : Inp} (h : Fit x) : ∀ y, y ∈ bodyL x → y < 256 := by
  intro y hy
  unfold bodyL at hy
  rcases List.mem_cons.1 hy with rfl | hy
  · have := h.kind; omega
  · obtain ⟨n, _, hn⟩ := List.mem_flatMap.1 hy
    exact vb_lt n y hn
theorem frL_lt {x : Inp} (h : Fit x) : ∀ y, y ∈ frL x → y < 256 := by
  intro y hy
  unfold frL at hy
  rcases List.mem_cons.1 hy with rfl | hy
  · have := bodyL_len h; omega
  · rcases List.mem_append.1 hy with hy | hy
    · exact bodyL_lt h y hy
    · exact sm_lt _ y hy
theorem rc_frame {x : Inp} (h : Fit x) (rest : List Nat) : rcL (frL x ++ rest) = .inr (x, (frL x).length) := by
  have hl := bodyL_len h
  have hi := (ipL_iff (bodyL x) (bodyL_lt h) x).2 ⟨h, rfl⟩
  have hs := sm_len (bodyL x)
  have e : frL x ++ rest = (bodyL x).length :: (bodyL x ++ (sm (bodyL x) ++ rest)) := by unfold frL; simp
  rw [e, frL_len]
  have hd : (bodyL x ++ (sm (bodyL x) ++ rest)).drop (bodyL x).length = sm (bodyL x) ++ rest := List.drop_left
  have ht : (bodyL x ++ (sm (bodyL x) ++ rest)).take (bodyL x).length = bodyL x := List.take_left
  have ht4 : (sm (bodyL x) ++ rest).take 4 = sm (bodyL x) := by rw [← hs]; exact List.take_left
  have hlen : (bodyL x ++ (sm (bodyL x) ++ rest)).length = (bodyL x).length + (4 + rest.length) := by rw [List.length_append, List.length_append, hs]
  simp only [rcL]
  rw [if_neg (by omega), if_neg (by omega), if_neg (by rw [hlen]; omega), ht, hd, ht4, if_neg (by simp), hi]
theorem rc_cut {x : Inp} (h : Fit x) (p : List Nat) (hp : p <+: frL x) (hn : p.length < (frL x).length) : rcL p = .inl 2 := by
  have hl := bodyL_len h
  cases p with
  | nil => rfl
  | cons n t =>
    obtain ⟨r, hr⟩ := hp
    unfold frL at hr
    rw [List.cons_append] at hr
    injection hr with e _
    rw [frL_len, List.length_cons] at hn
    simp only [rcL]
    rw [if_neg (by omega), if_neg (by omega), if_pos (by omega)]
theorem rc_why (l : List Nat) (w : Nat) (h : rcL l = .inl w) : 2 ≤ w ∧ w ≤ 4 := by
  cases l with
  | nil => simp [rcL] at h; omega
  | cons n t =>
    simp only [rcL] at h
    split at h
    · injection h with h; omega
    split at h
    · injection h with h; omega
    split at h
    · injection h with h; omega
    split at h
    · injection h with h; omega
    split at h
    · injection h with h; omega
    · cases h
theorem take_free (a b r : List Nat) (n : Nat) (h : a ++ r = b) (hn : n ≤ b.length) : (∃ t, a = b.take n ++ t) ∨ (∃ t, b.take n = a ++ t) := by
  subst h
  by_cases hc : n ≤ a.length
  · refine .inl ⟨a.drop n, ?_⟩
    rw [List.take_append_of_le_length hc, List.take_append_drop]
  · refine .inr ⟨r.take (n - a.length), ?_⟩
    rw [List.take_append, List.take_of_length_le (by omega)]
/-- One byte of a record is turned: there is none. -/
theorem rc_harm {x : Inp} (h : Fit x) (rest : List Nat) (hr : ∀ y, y ∈ rest → y < 256) (j v : Nat) (hj : j < (frL x).length) (hv : v < 256) (hne : v ≠ (frL x).getD j 0) : ∃ w, rcL ((frL x).set j v ++ rest) = .inl w := by
  have hl := bodyL_len h
  have hs := sm_len (bodyL x)
  rw [frL_len] at hj
  cases hrc : rcL ((frL x).set j v ++ rest) with
  | inl w => exact ⟨w, rfl⟩
  | inr q =>
    exfalso
    obtain ⟨y, k⟩ := q
    cases j with
    | zero =>
      have e : (frL x).set 0 v ++ rest = v :: (bodyL x ++ (sm (bodyL x) ++ rest)) := by unfold frL; simp
      have hv' : v ≠ (bodyL x).length := by simpa [frL] using hne
      rw [e] at hrc
      simp only [rcL] at hrc
      split at hrc
      · cases hrc
      split at hrc
      · cases hrc
      split at hrc
      · cases hrc
      rename_i _ _ hlen
      split at hrc
      · cases hrc
      split at hrc
      · cases hrc
      rename_i z hz
      have hb : ∀ y, y ∈ (bodyL x ++ (sm (bodyL x) ++ rest)).take v → y < 256 := by
        intro y hy
        rcases List.mem_append.1 (List.mem_of_mem_take hy) with hy | hy
        · exact bodyL_lt h y hy
        · rcases List.mem_append.1 hy with hy | hy
          · exact sm_lt _ y hy
          · exact hr y hy
      obtain ⟨hf, hbody⟩ := (ipL_iff _ hb z).1 hz
      have hle : v ≤ (bodyL x ++ (sm (bodyL x) ++ rest)).length := by omega
      have hvl : ((bodyL x ++ (sm (bodyL x) ++ rest)).take v).length = v := by rw [List.length_take]; omega
      rcases take_free (bodyL x) _ (sm (bodyL x) ++ rest) v rfl hle with ⟨t, ht⟩ | ⟨t, ht⟩
      · rw [hbody] at ht
        obtain ⟨e1, e2⟩ := bodyL_free h hf [] t (by rw [List.append_nil]; exact ht)
        rw [hbody, ← e1] at hvl
        exact hv' hvl.symm
      · rw [hbody] at ht
        obtain ⟨e1, e2⟩ := bodyL_free hf h [] t (by rw [List.append_nil]; exact ht)
        rw [hbody, e1] at hvl
        exact hv' hvl.symm
    | succ j =>
      have e : (frL x).set (j + 1) v ++ rest = (bodyL x).length :: ((bodyL x ++ sm (bodyL x)).set j v ++ rest) := by unfold frL; simp
      rw [e] at hrc
      have hlen : ((bodyL x ++ sm (bodyL x)).set j v ++ rest).length = (bodyL x).length + 4 + rest.length := by rw [List.length_append, List.length_set, List.length_append, hs]
      simp only [rcL] at hrc
      rw [if_neg (by omega), if_neg (by omega), if_neg (by rw [hlen]; omega)] at hrc
      split at hrc
      · cases hrc
      rename_i hsum
      have hsum := Decidable.not_not.1 hsum
      by_cases hc : j < (bodyL x).length
      · have e1 : (bodyL x ++ sm (bodyL x)).set j v = (bodyL x).set j v ++ sm (bodyL x) := List.set_append_left _ _ hc
        have hl2 : ((bodyL x).set j v).length = (bodyL x).length := List.length_set
        rw [e1, List.append_assoc] at hsum
        rw [← hl2, List.take_left, List.drop_left] at hsum
        have ht4 : (sm (bodyL x) ++ rest).take 4 = sm (bodyL x) := by rw [← hs]; exact List.take_left
        rw [ht4] at hsum
        have hne' : v ≠ (bodyL x)[j] := by
          have : (frL x).getD (j + 1) 0 = (bodyL x)[j] := by
            unfold frL
            rw [List.getD_cons_succ, List.getD_eq_getElem?_getD, List.getElem?_append_left hc, List.getElem?_eq_getElem hc]; rfl
          rw [this] at hne; exact hne
        have hsplit : bodyL x = (bodyL x).take j ++ (bodyL x)[j] :: (bodyL x).drop (j + 1) := by rw [← List.drop_eq_getElem_cons hc, List.take_append_drop]
        have hset : (bodyL x).set j v = (bodyL x).take j ++ v :: (bodyL x).drop (j + 1) := by rw [List.set_eq_take_append_cons_drop, if_pos hc]
        rw [hset] at hsum
        generalize hB : (bodyL x)[j] = u at *
        have hu : u < 256 := bodyL_lt h u (by rw [← hB]; exact List.getElem_mem hc)
        have h3 : sm ((bodyL x).take j ++ v :: (bodyL x).drop (j + 1)) = sm ((bodyL x).take j ++ u :: (bodyL x).drop (j + 1)) := by
          rw [← hsplit]; exact hsum
        exact hne' (sm_one _ _ _ _ hv hu h3)
      · have e1 : (bodyL x ++ sm (bodyL x)).set j v = bodyL x ++ (sm (bodyL x)).set (j - (bodyL x).length) v := List.set_append_right _ _ (by omega)
        rw [e1, List.append_assoc, List.take_left, List.drop_left] at hsum
        have ht4 : ((sm (bodyL x)).set (j - (bodyL x).length) v ++ rest).take 4 = (sm (bodyL x)).set (j - (bodyL x).length) v := by
          have : ((sm (bodyL x)).set (j - (bodyL x).length) v).length = 4 := by rw [List.length_set, hs]
          rw [← this]; exact List.take_left
        rw [ht4] at hsum
        have hjs : j - (bodyL x).length < (sm (bodyL x)).length := by rw [hs]; omega
        have h1 : (sm (bodyL x)).getD (j - (bodyL x).length) 0 = v := by
          conv => lhs; rw [hsum]
          rw [List.getD_eq_getElem?_getD, List.getElem?_set_self hjs]; rfl
        have h2 : (frL x).getD (j + 1) 0 = (sm (bodyL x)).getD (j - (bodyL x).length) 0 := by
          unfold frL
          rw [List.getD_cons_succ, List.getD_eq_getElem?_getD, List.getElem?_append_right (by omega), List.getD_eq_getElem?_getD]
        rw [h2, h1] at hne
        exact hne rfl

/-- A log is read, record by record. -/
def rdL : Nat → List Nat → Nat → List Inp × Nat × Nat
  | 0, _, at_ => ([], at_, 2)
  | f + 1, l, at_ => match rcL l with
    | .inl w => ([], at_, w)
    | .inr (x, k) => if x.1 = 5 then ([x], at_ + k, if l.drop k = [] then 1 else 5) else (x :: (rdL f (l.drop k) (at_ + k)).1, (rdL f (l.drop k) (at_ + k)).2)
theorem rdL_more : ∀ (f g : Nat) (l : List Nat) (a : Nat), l.length < f → l.length < g → rdL f l a = rdL g l a
  | 0, _, _, _, h, _ => absurd h (Nat.not_lt_zero _)
  | _, 0, _, _, _, h => absurd h (Nat.not_lt_zero _)
  | f + 1, g + 1, l, a, hf, hg => by
    simp only [rdL]
    cases h : rcL l with
    | inl w => rfl
    | inr q =>
      obtain ⟨x, k⟩ := q
      have hk := rcL_size l x k h
      simp only
      rw [rdL_more f g (l.drop k) (a + k) (by rw [List.length_drop]; omega) (by rw [List.length_drop]; omega)]
theorem rdL_step (f : Nat) (l : List Nat) (a : Nat) (x : Inp) (k : Nat) (h : rcL l = .inr (x, k)) (h5 : x.1 ≠ 5) : rdL (f + 1) l a = (x :: (rdL f (l.drop k) (a + k)).1, (rdL f (l.drop k) (a + k)).2) := by
  simp only [rdL, h]; rw [if_neg h5]
/-- The records of inputs, one behind the other. -/
def frs (xs : List Inp) : List Nat := xs.flatMap frL
theorem frs_cons (x : Inp) (r : List Inp) : frs (x :: r) = frL x ++ frs r := rfl
theorem rd_frames : ∀ (xs : List Inp) (rest : List Nat) (f a : Nat), (∀ x, x ∈ xs → Fit x ∧ x.1 ≠ 5) → (frs xs ++ rest).length < f →
    rdL f (frs xs ++ rest) a = (xs ++ (rdL (rest.length + 1) rest (a + (frs xs).length)).1, (rdL (rest.length + 1) rest (a + (frs xs).length)).2)
  | [], rest, f, a, _, hf => by
    have e : frs [] ++ rest = rest := rfl
    rw [e] at hf ⊢
    rw [rdL_more f (rest.length + 1) rest a hf (by omega)]
    rfl
  | x :: r, rest, 0, a, _, hf => absurd hf (Nat.not_lt_zero _)
  | x :: r, rest, f + 1, a, hx, hf => by
    obtain ⟨h1, h5⟩ := hx x (List.mem_cons_self ..)
    have hr := fun y hy => hx y (List.mem_cons_of_mem _ hy)
    have hk := frL_len x
    rw [frs_cons, List.append_assoc] at hf ⊢
    have hd : (frL x ++ (frs r ++ rest)).drop (frL x).length = frs r ++ rest := List.drop_left
    rw [rdL_step f _ a x _ (rc_frame h1 (frs r ++ rest)) h5, hd, rd_frames r rest f (a + (frL x).length) hr (by rw [List.length_append] at hf; omega), List.length_append, Nat.add_assoc]
    rfl

def hd3 : List Nat := [82, 82, 49]
/-- A whole log is read. -/
def readL (l : List Nat) : List Inp × Nat × Nat := if hd3 <+: l then rdL (l.length + 1) (l.drop 3) 3 else if l <+: hd3 then ([], 0, 2) else ([], 0, 4)
/-- The log of inputs and an end. -/
def logL (xs : List Inp) (e : Nat) : List Nat := hd3 ++ (frs xs ++ frL (5, 0, e, []))
theorem fit_end (e : Nat) (h1 : 1 ≤ e) (h5 : e ≤ 5) : Fit (5, 0, e, []) := .inr (.inr (.inr (.inr ⟨rfl, rfl, h1, h5, rfl⟩)))
theorem readL_head (r : List Nat) : readL (hd3 ++ r) = rdL (r.length + 1) r 3 := by
  unfold readL
  rw [if_pos (List.prefix_append _ _)]
  have e : (hd3 ++ r).drop 3 = r := rfl
  rw [e]
  exact rdL_more _ _ _ _ (by rw [List.length_append]; have : hd3.length = 3 := rfl; omega) (by omega)
theorem read_log (xs : List Inp) (e : Nat) (hx : ∀ x, x ∈ xs → Fit x ∧ x.1 ≠ 5) (h1 : 1 ≤ e) (h5 : e ≤ 5) : readL (logL xs e) = (xs ++ [(5, 0, e, [])], (logL xs e).length, 1) := by
  have hf := fit_end e h1 h5
  have hr := rc_frame hf []
  rw [List.append_nil] at hr
  have hl : (logL xs e).length = 3 + (frs xs).length + (frL (5, 0, e, [])).length := by
    unfold logL; rw [List.length_append, List.length_append]; have : hd3.length = 3 := rfl; omega
  unfold logL
  rw [readL_head, rd_frames xs (frL (5, 0, e, [])) _ 3 hx (Nat.lt_succ_self _)]
  have e2 : rdL ((frL (5, 0, e, [])).length + 1) (frL (5, 0, e, [])) (3 + (frs xs).length) = ([(5, 0, e, [])], 3 + (frs xs).length + (frL (5, 0, e, [])).length, 1) := by
    simp only [rdL, hr, if_true, List.drop_length]
  rw [e2]
  simp only
  rw [show (hd3 ++ (frs xs ++ frL (5, 0, e, []))).length = 3 + (frs xs).length + (frL (5, 0, e, [])).length from hl]
/-- A place within records: which record, and where in it. -/
theorem frs_split : ∀ (ys : List Inp) (n : Nat), n < (frs ys).length → ∃ m, ∃ hm : m < ys.length, ∃ j, j < (frL ys[m]).length ∧ n = (frs (ys.take m)).length + j ∧ frs ys = frs (ys.take m) ++ (frL ys[m] ++ frs (ys.drop (m + 1)))
  | [], n, h => absurd h (by simp [frs])
  | y :: r, n, h => by
    rw [frs_cons, List.length_append] at h
    by_cases hc : n < (frL y).length
    · exact ⟨0, by simp, n, hc, by simp [frs], by simp [frs]⟩
    · obtain ⟨m, hm, j, h1, h2, h3⟩ := frs_split r (n - (frL y).length) (by omega)
      refine ⟨m + 1, by simpa using hm, j, by simpa using h1, ?_, ?_⟩
      · rw [List.take_succ_cons, frs_cons, List.length_append]; omega
      · rw [frs_cons, h3, List.take_succ_cons, frs_cons, List.append_assoc]; simp
/-- Inputs and the end. -/
def alls (xs : List Inp) (e : Nat) : List Inp := xs ++ [(5, 0, e, [])]
theorem logL_alls (xs : List Inp) (e : Nat) : logL xs e = hd3 ++ frs (alls xs e) := by
  unfold logL alls frs; simp
theorem alls_fit {xs : List Inp} {e : Nat} (hx : ∀ x, x ∈ xs → Fit x ∧ x.1 ≠ 5) (h1 : 1 ≤ e) (h5 : e ≤ 5) : ∀ x, x ∈ alls xs e → Fit x := by
  intro x h
  rcases List.mem_append.1 h with h | h
  · exact (hx x h).1
  · rw [List.mem_singleton.1 h]; exact fit_end e h1 h5
theorem alls_take {xs : List Inp} {e m : Nat} (hm : m < (alls xs e).length) : (alls xs e).take m = xs.take m := by
  have : m ≤ xs.length := by unfold alls at hm; simp at hm; omega
  unfold alls; rw [List.take_append_of_le_length this]
/-- The first bytes of a log. -/
theorem read_cut (xs : List Inp) (e : Nat) (hx : ∀ x, x ∈ xs → Fit x ∧ x.1 ≠ 5) (h1 : 1 ≤ e) (h5 : e ≤ 5) (n : Nat) (h3 : 3 ≤ n) (hn : n < (logL xs e).length) : ∃ m a, m ≤ xs.length ∧ readL ((logL xs e).take n) = (xs.take m, a, 2) ∧ 3 ≤ a ∧ a ≤ n := by
  have hl3 : hd3.length = 3 := rfl
  rw [logL_alls] at hn ⊢
  rw [List.length_append] at hn
  obtain ⟨m, hm, j, hj, hnj, hs⟩ := frs_split (alls xs e) (n - 3) (by omega)
  have hml : m ≤ xs.length := by unfold alls at hm; simp at hm; omega
  have hft := alls_fit hx h1 h5 _ (List.getElem_mem hm)
  have htk : (hd3 ++ frs (alls xs e)).take n = hd3 ++ (frs ((alls xs e).take m) ++ (frL (alls xs e)[m]).take j) := by
    rw [List.take_append, List.take_of_length_le (by omega), hl3, hnj, hs, List.take_append, List.take_of_length_le (by omega), Nat.add_sub_cancel_left, List.take_append_of_le_length (by omega)]
  have hxm : ∀ x, x ∈ (alls xs e).take m → Fit x ∧ x.1 ≠ 5 := by
    rw [alls_take hm]; exact fun x h => hx x (List.mem_of_mem_take h)
  have hcut := rc_cut hft ((frL (alls xs e)[m]).take j) (List.take_prefix _ _) (by rw [List.length_take]; omega)
  refine ⟨m, 3 + (frs ((alls xs e).take m)).length, hml, ?_, by omega, by omega⟩
  rw [htk, readL_head, rd_frames _ _ _ 3 hxm (Nat.lt_succ_self _)]
  simp only [rdL, hcut, List.append_nil]
  rw [alls_take hm]
theorem read_head (xs : List Inp) (e : Nat) (n : Nat) (h3 : n < 3) : readL ((logL xs e).take n) = ([], 0, 2) := by
  have e0 : (logL xs e).take n = hd3.take n := by
    unfold logL; rw [List.take_append_of_le_length (by have : hd3.length = 3 := rfl; omega)]
  rw [e0]
  have h : n = 0 ∨ n = 1 ∨ n = 2 := by omega
  rcases h with rfl | rfl | rfl <;> decide
/-- One byte of a log is turned. -/
theorem read_harm (xs : List Inp) (e : Nat) (hx : ∀ x, x ∈ xs → Fit x ∧ x.1 ≠ 5) (h1 : 1 ≤ e) (h5 : e ≤ 5) (n v : Nat) (h3 : 3 ≤ n) (hn : n < (logL xs e).length) (hv : v < 256) (hne : v ≠ (logL xs e).getD n 0) :
    ∃ m a w, m ≤ xs.length ∧ readL ((logL xs e).set n v) = (xs.take m, a, w) ∧ 3 ≤ a ∧ a ≤ n ∧ 2 ≤ w ∧ w ≤ 4 := by
  have hl3 : hd3.length = 3 := rfl
  rw [logL_alls] at hn hne ⊢
  rw [List.length_append] at hn
  obtain ⟨m, hm, j, hj, hnj, hs⟩ := frs_split (alls xs e) (n - 3) (by omega)
  have hml : m ≤ xs.length := by unfold alls at hm; simp at hm; omega
  have hft := alls_fit hx h1 h5 _ (List.getElem_mem hm)
  have hset : (hd3 ++ frs (alls xs e)).set n v = hd3 ++ (frs ((alls xs e).take m) ++ ((frL (alls xs e)[m]).set j v ++ frs ((alls xs e).drop (m + 1)))) := by
    rw [List.set_append_right _ _ (by omega), hl3, hnj, hs, List.set_append_right _ _ (by omega), Nat.add_sub_cancel_left, List.set_append_left _ _ hj]
  have hget : (hd3 ++ frs (alls xs e)).getD n 0 = (frL (alls xs e)[m]).getD j 0 := by
    rw [List.getD_eq_getElem?_getD, List.getElem?_append_right (by omega), hl3, hnj, hs, List.getElem?_append_right (by omega), Nat.add_sub_cancel_left, List.getElem?_append_left hj, ← List.getD_eq_getElem?_getD]
  rw [hget] at hne
  have hrest : ∀ y, y ∈ frs ((alls xs e).drop (m + 1)) → y < 256 := by
    intro y hy
    obtain ⟨z, hz, hy⟩ := List.mem_flatMap.1 hy
    exact frL_lt (alls_fit hx h1 h5 z (List.mem_of_mem_drop hz)) y hy
  have hxm : ∀ x, x ∈ (alls xs e).take m → Fit x ∧ x.1 ≠ 5 := by
    rw [alls_take hm]; exact fun x h => hx x (List.mem_of_mem_take h)
  obtain ⟨w, hw⟩ := rc_harm hft (frs ((alls xs e).drop (m + 1))) hrest j v hj hv hne
  have hww := rc_why _ w hw
  refine ⟨m, 3 + (frs ((alls xs e).take m)).length, w, hml, ?_, by omega, by omega, hww.1, hww.2⟩
  rw [hset, readL_head, rd_frames _ _ _ 3 hxm (Nat.lt_succ_self _)]
  simp only [rdL, hw, List.append_nil]
  rw [alls_take hm]
theorem read_harm_head (xs : List Inp) (e : Nat) (n v : Nat) (h3 : n < 3) (hne : v ≠ hd3.getD n 0) : readL ((logL xs e).set n v) = ([], 0, 4) := by
  have hset : (logL xs e).set n v = hd3.set n v ++ (frs xs ++ frL (5, 0, e, [])) := by
    unfold logL; rw [List.set_append_left _ _ (by have : hd3.length = 3 := rfl; omega)]
  have hp : ¬ hd3 <+: (logL xs e).set n v := by
    rw [hset]
    rintro ⟨t, ht⟩
    have hh : hd3 = hd3.set n v := by
      have := congrArg (List.take 3) ht
      rwa [List.take_left' (show hd3.length = 3 from rfl), List.take_left' (show (hd3.set n v).length = 3 by rw [List.length_set]; rfl)] at this
    have : (hd3.set n v).getD n 0 = v := by rw [List.getD_eq_getElem?_getD, List.getElem?_set_self (show n < hd3.length from h3)]; rfl
    rw [← hh] at this
    exact hne this.symm
  have hq : ¬ (logL xs e).set n v <+: hd3 := by
    intro hq
    have := hq.length_le
    rw [List.length_set, logL_alls, List.length_append] at this
    have h2 : 0 < (frs (alls xs e)).length := by
      unfold alls frs; simp [frL]; omega
    have : hd3.length = 3 := rfl
    omega
  unfold readL
  rw [if_neg hp, if_neg hq]
end Go.Proofs.YtfmbebofllgmoaaGreatDoor
namespace Go.Proofs.YtfmbebofllgmoaaGreatDoor
open Go.RowKit
attribute [local go_sem ↓] Go.wp_at_zero Go.wp_at_succ

theorem toList_bs {a b : ByteArray} : a.toList = b.toList ↔ bs a = bs b := by
  rw [Go.ByteArray.toList_eq, Go.ByteArray.toList_eq]
  constructor
  · intro h; unfold bs; rw [h]
  · intro h; rw [bs_inj h]
/-- Is b the beginning of a? -/
def preB (a b : ByteArray) : Bool := decide (b.size ≤ a.size) && ((a.extract 0 b.size).toList == b.toList)
theorem preB_iff (a b : ByteArray) : preB a b = true ↔ bs b <+: bs a := by
  unfold preB
  rw [Bool.and_eq_true, decide_eq_true_eq, beq_iff_eq, toList_bs]
  constructor
  · rintro ⟨h1, h2⟩
    rw [← h2, bs_sub, List.drop_zero]
    exact List.take_prefix _ _
  · intro h
    have hl := h.length_le
    rw [bs_len, bs_len] at hl
    refine ⟨hl, ?_⟩
    rw [bs_sub, List.drop_zero, ← bs_len b]
    exact (List.prefix_iff_eq_take.1 h).symm
set_option maxRecDepth 20000 in
theorem hasPre_any (a b : ByteArray) (w : World) : Calls Tryz.prog 120 #[.string a, .string b] w fun e w' => e = .returned (.bool (preB a b)) ∧ w' = w := by
  by_cases h : b.size ≤ a.size
  · have hi : (b.size : Int) ≤ (a.size : Int) := by omega
    have e : preB a b = ((a.extract 0 b.size).toList == b.toList) := by unfold preB; simp [h]
    rw [e]
    go_enter Tryz.func120, Tryz.ntmps120
    go_wp2
    go_ret
    exact ⟨rfl, rfl⟩
  · have hi : ¬ (b.size : Int) ≤ (a.size : Int) := by omega
    have e : preB a b = false := by unfold preB; simp [h]
    rw [e]
    go_enter Tryz.func120, Tryz.ntmps120
    go_wp2
    go_ret
    exact ⟨rfl, rfl⟩
theorem hasPrefix_any (a b : ByteArray) (w : World) : Calls Tryz.prog 98 #[.string a, .string b] w fun e w' => e = .returned (.bool (preB a b)) ∧ w' = w := by
  have h := hasPre_any a b
  have H := hide h
  clear h
  generalize preB a b = r at *
  go_enter Tryz.func98, Tryz.ntmps98
  go_wp2_with (go_at_call 120; refine ((unhide H) _).mono ?_; rintro e w' ⟨rfl, rfl⟩)
  go_ret
  exact ⟨rfl, rfl⟩
def hd3S : ByteArray := ⟨#[82, 82, 49]⟩
theorem hd3S_bs : bs hd3S = hd3 := rfl
/-- The reader's beginning. -/
def begM (s : ByteArray) : Int × Int := if hd3 <+: bs s then (3, 0) else if bs s <+: hd3 then (0, 2) else (0, 4)
theorem begin_any (s : ByteArray) (w : World) : Calls Tryz.prog 58 #[.string s] w fun e w' => e = .returned (.tuple #[.int .i64 (begM s).1, .int .i64 (begM s).2]) ∧ w' = w := by
  have h1 := hasPrefix_any s hd3S
  have h2 := hasPrefix_any hd3S s
  have e1 := preB_iff s hd3S
  have e2 := preB_iff hd3S s
  rw [hd3S_bs] at e1 e2
  have H1 := hide h1
  have H2 := hide h2
  clear h1 h2
  unfold hd3S at H1 H2 e1 e2
  have HM : Hid (begM s = if hd3 <+: bs s then (3, 0) else if bs s <+: hd3 then (0, 2) else (0, 4)) := hide rfl
  generalize begM s = M at *
  cases hr1 : preB s ⟨#[82, 82, 49]⟩ with
  | true =>
    rw [hr1] at H1 e1
    have hp := e1.1 rfl
    have hm := unhide HM
    rw [if_pos hp] at hm
    subst hm
    clear e1 e2 hr1 HM hp
    go_enter Tryz.func58, Tryz.ntmps58
    go_wp2_with (go_at_call 98; refine ((unhide H1) _).mono ?_; rintro e w' ⟨rfl, rfl⟩)
    refine bodyPost_ret (v := .tuple #[.int .i64 3, .int .i64 0]) (by simp [results, Tryz.results58, go_sem]) rfl ⟨rfl, rfl⟩
  | false =>
    rw [hr1] at H1 e1
    have hp : ¬ hd3 <+: bs s := fun h => by have := e1.2 h; cases this
    have hm := unhide HM
    rw [if_neg hp] at hm
    cases hr2 : preB ⟨#[82, 82, 49]⟩ s with
    | true =>
      rw [hr2] at H2 e2
      rw [if_pos (e2.1 rfl)] at hm
      subst hm
      clear e1 e2 hr1 hr2 HM hp
      go_enter Tryz.func58, Tryz.ntmps58
      go_wp2_with fail
      go_at_call 98
      refine ((unhide H1) _).mono ?_
      rintro e w' ⟨rfl, rfl⟩
      go_wp2_with fail
      go_at_call 98
      refine ((unhide H2) _).mono ?_
      rintro e w' ⟨rfl, rfl⟩
      go_wp2
      refine bodyPost_ret (v := .tuple #[.int .i64 0, .int .i64 2]) (by simp [results, Tryz.results58, go_sem]) rfl ⟨rfl, rfl⟩
    | false =>
      rw [hr2] at H2 e2
      rw [if_neg (fun h => by have := e2.2 h; cases this)] at hm
      subst hm
      clear e1 e2 hr1 hr2 HM hp
      go_enter Tryz.func58, Tryz.ntmps58
      go_wp2_with fail
      go_at_call 98
      refine ((unhide H1) _).mono ?_
      rintro e w' ⟨rfl, rfl⟩
      go_wp2_with fail
      go_at_call 98
      refine ((unhide H2) _).mono ?_
      rintro e w' ⟨rfl, rfl⟩
      go_wp2
      refine bodyPost_ret (v := .tuple #[.int .i64 0, .int .i64 4]) (by simp [results, Tryz.results58, go_sem]) rfl ⟨rfl, rfl⟩
end Go.Proofs.YtfmbebofllgmoaaGreatDoor
