import PyProof.Rows.All
import Wide.All
import OpenK.AllK
import Wide.FinOn
import HandS.Base
import HandS.Call
import HandS.List
import HandS.Comp
import HandS.Dict
import HandS.Iter
import HandS.Ends
import HandS.Words
import HandS.More
import HandS.Wide
import HandS.TupAny
import HandS.IsInst
import HandS.Zip
import HandS.Flow
import HandS.ForMost
import HandS.NoneIn
import HandS.SortInts
import PyProof.ReprRoads
import PyProof.ReprLen
import HandS.TupLe
import HandS.Style
import PySem.Challenge.RW_dialroad_k01_normalized_polynomials
set_option Elab.async false
set_option linter.all false
set_option maxRecDepth 100000
set_option maxHeartbeats 4000000
set_option exponentiation.threshold 500
/-! Polynomials as lists of pairs (exponent, coefficient): what they are worth, and when two of them are one. -/
namespace DR
abbrev Pol := List (Int × Int)
/-- the sum of the coefficients at e -/
def cf : Pol → Int → Int
  | [], _ => 0
  | t :: r, e => (if t.1 = e then t.2 else 0) + cf r e
theorem cf_nil (e : Int) : cf [] e = 0 := rfl
theorem cf_cons (t : Int × Int) (r : Pol) (e : Int) : cf (t :: r) e = (if t.1 = e then t.2 else 0) + cf r e := rfl
theorem cf_append : ∀ (f g : Pol) (e : Int), cf (f ++ g) e = cf f e + cf g e
  | [], g, e => by simp [cf]
  | t :: r, g, e => by
    rw [List.cons_append, cf_cons, cf_cons, cf_append r g e]
    omega
theorem cf_none : ∀ (f : Pol) (e : Int), (∀ t ∈ f, t.1 ≠ e) → cf f e = 0
  | [], _, _ => rfl
  | t :: r, e, h => by
    rw [cf_cons, if_neg (h t List.mem_cons_self), cf_none r e fun u hu => h u (List.mem_cons_of_mem _ hu)]
    rfl
theorem cf_ne {f : Pol} {e : Int} (h : cf f e ≠ 0) : ∃ t ∈ f, t.1 = e := by
  refine Classical.byContradiction fun q => h (cf_none f e fun t ht z => q ⟨t, ht, z⟩)
/-- canonical: ascending, coefficients from 1 to p - 1, worth F modulo p -/
structure Nf (p : Int) (g : Pol) (F : Int → Int) : Prop where
  asc : g.Pairwise fun x y => x.1 < y.1
  rng : ∀ t ∈ g, 0 < t.2 ∧ t.2 < p
  cof : ∀ e, cf g e = F e % p
theorem cf_head {t : Int × Int} {r : Pol} (h : (t :: r).Pairwise fun x y => x.1 < y.1) : cf (t :: r) t.1 = t.2 := by
  rw [cf_cons, if_pos rfl, cf_none r t.1 fun u hu z => ?_]
  · omega
  · have := (List.pairwise_cons.mp h).1 u hu
    omega
theorem asc_le {t : Int × Int} {r : Pol} (h : (t :: r).Pairwise fun x y => x.1 < y.1) {u : Int × Int} (hu : u ∈ t :: r) : t.1 ≤ u.1 := by
  rcases List.mem_cons.mp hu with e | e
  · rw [e]
    exact Int.le_refl _
  · exact Int.le_of_lt ((List.pairwise_cons.mp h).1 u e)
theorem cf_mem : ∀ {g : Pol}, (g.Pairwise fun x y => x.1 < y.1) → ∀ t ∈ g, cf g t.1 = t.2
  | [], _, t, h => absurd h List.not_mem_nil
  | u :: r, hp, t, h => by
    rcases List.mem_cons.mp h with e | e
    · rw [e]
      exact cf_head hp
    · have hlt := (List.pairwise_cons.mp hp).1 t e
      rw [cf_cons, if_neg (by omega), cf_mem (List.pairwise_cons.mp hp).2 t e]
      omega
theorem asc_ext : ∀ {g g' : Pol}, (g.Pairwise fun x y => x.1 < y.1) → (g'.Pairwise fun x y => x.1 < y.1) → (∀ t ∈ g, t.2 ≠ 0) → (∀ t ∈ g', t.2 ≠ 0) → (∀ e, cf g e = cf g' e) → g = g'
  | [], [], _, _, _, _, _ => rfl
  | [], u :: s, _, h', _, n', c => by
    have := c u.1
    rw [cf_head h'] at this
    exact absurd this.symm (n' u List.mem_cons_self)
  | t :: r, [], h, _, n, _, c => by
    have := c t.1
    rw [cf_head h] at this
    exact absurd this (n t List.mem_cons_self)
  | t :: r, u :: s, h, h', n, n', c => by
    have a1 : t.1 = u.1 := by
      have e1 := c t.1
      rw [cf_head h] at e1
      obtain ⟨x, hx, ex⟩ := cf_ne (f := u :: s) (e := t.1) (by rw [← e1]; exact n t List.mem_cons_self)
      have e2 := c u.1
      rw [cf_head h'] at e2
      obtain ⟨y, hy, ey⟩ := cf_ne (f := t :: r) (e := u.1) (by rw [e2]; exact n' u List.mem_cons_self)
      have l1 := asc_le h' hx
      have l2 := asc_le h hy
      omega
    have a2 : t.2 = u.2 := by
      have e1 := c t.1
      rw [cf_head h, a1, cf_head h'] at e1
      exact e1
    have e : t = u := Prod.ext a1 a2
    subst e
    congr 1
    refine asc_ext (List.pairwise_cons.mp h).2 (List.pairwise_cons.mp h').2 (fun x hx => n x (List.mem_cons_of_mem _ hx)) (fun x hx => n' x (List.mem_cons_of_mem _ hx)) fun e => ?_
    have := c e
    rw [cf_cons, cf_cons] at this
    omega
theorem Nf.uniq {p : Int} {g g' : Pol} {F F' : Int → Int} (a : Nf p g F) (b : Nf p g' F') (h : ∀ e, F e % p = F' e % p) : g = g' :=
  asc_ext a.asc b.asc (fun t ht => by have := a.rng t ht; omega) (fun t ht => by have := b.rng t ht; omega) fun e => by rw [a.cof, b.cof, h]
theorem Nf.to {p : Int} {g : Pol} {F F' : Int → Int} (a : Nf p g F) (h : ∀ e, F e % p = F' e % p) : Nf p g F' := ⟨a.asc, a.rng, fun e => by rw [a.cof, h]⟩
theorem Nf.self {p : Int} {g : Pol} {F : Int → Int} (a : Nf p g F) : Nf p g (cf g) := a.to fun e => by rw [a.cof, Int.emod_emod]
/-- every exponent of g is one of f's, where g is worth nothing where f has no exponent -/
theorem Nf.sub {p : Int} {g : Pol} {F : Int → Int} (a : Nf p g F) {L : List Int} (h : ∀ e, e ∉ L → F e % p = 0) : ∀ t ∈ g, t.1 ∈ L := fun t ht => by
  refine Classical.byContradiction fun n => ?_
  have e1 := a.cof t.1
  rw [cf_mem a.asc t ht, h _ n] at e1
  have := (a.rng t ht).1
  omega
theorem nd_len : ∀ {L M : List Int}, L.Nodup → (∀ x ∈ L, x ∈ M) → L.length ≤ M.length
  | [], M, _, _ => Nat.zero_le _
  | x :: L, M, h, s => by
    have hx : x ∈ M := s x List.mem_cons_self
    have n := (List.nodup_cons.mp h)
    have := nd_len (L := L) (M := M.erase x) n.2 fun y hy => by
      have hne : y ≠ x := fun e => n.1 (e ▸ hy)
      exact (List.mem_erase_of_ne hne).mpr (s y (List.mem_cons_of_mem _ hy))
    rw [List.length_erase_of_mem hx] at this
    have hp : 0 < M.length := List.length_pos_of_mem hx
    rw [List.length_cons]
    omega
theorem asc_nodup {g : Pol} (h : g.Pairwise fun x y => x.1 < y.1) : (g.map (·.1)).Nodup := by
  rw [List.nodup_iff_pairwise_ne, List.pairwise_map]
  exact h.imp fun q => by omega
theorem Nf.len {p : Int} {g : Pol} {F : Int → Int} (a : Nf p g F) {L : List Int} (h : ∀ e, e ∉ L → F e % p = 0) : g.length ≤ L.length := by
  have := nd_len (asc_nodup a.asc) (M := L) fun x hx => by
    obtain ⟨t, ht, rfl⟩ := List.mem_map.mp hx
    exact a.sub h t ht
  rw [List.length_map] at this
  exact this
theorem cf_out {f : Pol} {e : Int} (h : e ∉ f.map (·.1)) : cf f e = 0 := cf_none f e fun t ht z => h (z ▸ List.mem_map_of_mem ht)
/-! a dict of ints, by its pairs -/
def put : Pol → Int → Int → Pol
  | [], e, v => [(e, v)]
  | t :: r, e, v => if t.1 = e then (e, v) :: r else t :: put r e v
theorem put_keys : ∀ (m : Pol) (e v x : Int), x ∈ (put m e v).map (·.1) → x = e ∨ x ∈ m.map (·.1)
  | [], e, v, x, h => by
    have : x = e := by simpa [put] using h
    exact .inl this
  | t :: r, e, v, x, h => by
    unfold put at h
    split at h
    · rename_i q
      rcases List.mem_cons.mp h with z | z
      · exact .inl z
      · exact .inr (List.mem_cons_of_mem _ z)
    · rcases List.mem_cons.mp h with z | z
      · exact .inr (by rw [z]; exact List.mem_cons_self)
      · rcases put_keys r e v x z with w | w
        · exact .inl w
        · exact .inr (List.mem_cons_of_mem _ w)
theorem put_nodup : ∀ (m : Pol) (e v : Int), (m.map (·.1)).Nodup → ((put m e v).map (·.1)).Nodup
  | [], e, v, _ => by simp [put]
  | t :: r, e, v, h => by
    have h' : (t.1 :: r.map (·.1)).Nodup := h
    have n := List.nodup_cons.mp h'
    unfold put
    split
    · rename_i q
      show (e :: r.map (·.1)).Nodup
      rw [← q]
      exact h'
    · rename_i q
      show (t.1 :: (put r e v).map (·.1)).Nodup
      refine List.nodup_cons.mpr ⟨fun z => ?_, put_nodup r e v n.2⟩
      rcases put_keys r e v t.1 z with w | w
      · exact q w
      · exact n.1 w
theorem put_cf : ∀ (m : Pol) (e v x : Int), (m.map (·.1)).Nodup → cf (put m e v) x = if x = e then v else cf m x
  | [], e, v, x, _ => by
    show (if e = x then v else 0) + 0 = _
    by_cases q : x = e
    · rw [if_pos q, if_pos q.symm]
      omega
    · rw [if_neg q, if_neg (fun z => q z.symm)]
      rfl
  | t :: r, e, v, x, h => by
    have h' : (t.1 :: r.map (·.1)).Nodup := h
    have n := List.nodup_cons.mp h'
    unfold put
    split
    · rename_i q
      rw [cf_cons, cf_cons]
      by_cases z : x = e
      · rw [if_pos z, if_pos z.symm, cf_out (f := r) (e := x) (by rw [z, ← q]; exact n.1)]
        omega
      · rw [if_neg z, if_neg (fun w => z w.symm), if_neg (fun w => z (w.symm.trans q))]
    · rename_i q
      rw [cf_cons, cf_cons, put_cf r e v x n.2]
      by_cases z : x = e
      · rw [if_pos z, if_pos z, if_neg (by omega)]
        omega
      · rw [if_neg z, if_neg z]
theorem put_len : ∀ (m : Pol) (e v : Int), (put m e v).length ≤ m.length + 1
  | [], _, _ => Nat.le_refl _
  | t :: r, e, v => by
    unfold put
    split
    · exact Nat.le_succ _
    · have := put_len r e v
      rw [List.length_cons, List.length_cons]
      omega
/-! what the sorted keys give -/
def kept (p : Int) (F : Int → Int) (ys : List Int) : Pol := (ys.filter fun e => decide (F e % p ≠ 0)).map fun e => (e, F e % p)
theorem kept_nil (p : Int) (F : Int → Int) : kept p F [] = [] := rfl
theorem kept_snoc (p : Int) (F : Int → Int) (ys : List Int) (e : Int) : kept p F (ys ++ [e]) = kept p F ys ++ (if F e % p ≠ 0 then [(e, F e % p)] else []) := by
  unfold kept
  rw [List.filter_append, List.map_append]
  congr 1
  by_cases h : F e % p ≠ 0
  · rw [if_pos h]
    simp [h]
  · rw [if_neg h]
    have : F e % p = 0 := Classical.byContradiction h
    simp [this]
theorem kept_cf (p : Int) (F : Int → Int) : ∀ (ys : List Int) (x : Int), ys.Nodup → cf (kept p F ys) x = if x ∈ ys then F x % p else 0
  | [], x, _ => by simp [kept, cf]
  | y :: r, x, h => by
    have n := List.nodup_cons.mp h
    have ih := kept_cf p F r x n.2
    have e : kept p F (y :: r) = (if F y % p ≠ 0 then [(y, F y % p)] else []) ++ kept p F r := by
      unfold kept
      rw [List.filter_cons]
      by_cases q : F y % p ≠ 0
      · simp [q]
      · have : F y % p = 0 := Classical.byContradiction q
        simp [this]
    rw [e, cf_append, ih]
    by_cases z : x = y
    · subst z
      rw [if_neg n.1, if_pos List.mem_cons_self]
      by_cases q : F x % p ≠ 0
      · rw [if_pos q]
        simp [cf]
      · rw [if_neg q]
        have : F x % p = 0 := Classical.byContradiction q
        rw [this]
        rfl
    · have : cf (if F y % p ≠ 0 then [(y, F y % p)] else []) x = 0 := by
        refine cf_none _ _ fun t ht w => ?_
        split at ht
        · have : t = (y, F y % p) := by simpa using ht
          rw [this] at w
          exact z w.symm
        · cases ht
      rw [this]
      by_cases q : x ∈ r
      · rw [if_pos q, if_pos (List.mem_cons_of_mem _ q)]
        omega
      · rw [if_neg q, if_neg (fun w => (List.mem_cons.mp w).elim z q)]
        rfl
theorem le_nd_lt : ∀ {ys : List Int}, ys.Pairwise (· ≤ ·) → ys.Nodup → ys.Pairwise (· < ·)
  | [], _, _ => .nil
  | y :: r, h, n => by
    have a := List.pairwise_cons.mp h
    have b := List.nodup_cons.mp n
    refine List.pairwise_cons.mpr ⟨fun z hz => ?_, le_nd_lt a.2 b.2⟩
    have := a.1 z hz
    have : y ≠ z := fun q => b.1 (q ▸ hz)
    omega
theorem kept_nf {p : Int} {F : Int → Int} {ys : List Int} (hp : 0 < p) (h : ys.Pairwise (· ≤ ·)) (n : ys.Nodup) (z : ∀ e, e ∉ ys → F e % p = 0) : Nf p (kept p F ys) F := by
  refine ⟨?_, fun t ht => ?_, fun e => ?_⟩
  · unfold kept
    rw [List.pairwise_map]
    exact (le_nd_lt h n).sublist List.filter_sublist
  · unfold kept at ht
    obtain ⟨e, he, rfl⟩ := List.mem_map.mp ht
    have q := of_decide_eq_true (List.mem_filter.mp he).2
    have h1 := Int.emod_nonneg (F e) (show p ≠ 0 by omega)
    have h2 := Int.emod_lt_of_pos (F e) hp
    exact ⟨by show 0 < F e % p; omega, h2⟩
  · rw [kept_cf p F ys e n]
    by_cases q : e ∈ ys
    · rw [if_pos q]
    · rw [if_neg q, z e q]
theorem kept_len (p : Int) (F : Int → Int) (ys : List Int) : (kept p F ys).length ≤ ys.length := by
  unfold kept
  rw [List.length_map]
  exact List.length_filter_le _ _
/-! the sums that the functions make -/
theorem cf_scale (k : Int) : ∀ (f : Pol) (e : Int), cf (f.map fun t => (t.1, t.2 * k)) e = cf f e * k
  | [], e => by simp [cf]
  | t :: r, e => by
    rw [List.map_cons, cf_cons, cf_cons, cf_scale k r e, Int.add_mul]
    show (if t.1 = e then t.2 * k else 0) + _ = _
    by_cases h : t.1 = e
    · rw [if_pos h, if_pos h]
    · rw [if_neg h, if_neg h, Int.zero_mul]
def moved (n : Int) (f : Pol) : Pol := f.map fun t => (t.1 + n, t.2)
theorem cf_moved (n : Int) : ∀ (f : Pol) (e : Int), cf (moved n f) e = cf f (e - n)
  | [], e => rfl
  | t :: r, e => by
    show (if t.1 + n = e then t.2 else 0) + cf (moved n r) e = (if t.1 = e - n then t.2 else 0) + cf r (e - n)
    rw [cf_moved n r e]
    by_cases h : t.1 + n = e
    · rw [if_pos h, if_pos (by omega)]
    · rw [if_neg h, if_neg (by omega)]
theorem Nf.moved {p : Int} {g : Pol} {F : Int → Int} (a : Nf p g F) (n : Int) : Nf p (moved n g) (fun e => F (e - n)) := by
  refine ⟨?_, fun t ht => ?_, fun e => by rw [cf_moved, a.cof]⟩
  · unfold DR.moved
    rw [List.pairwise_map]
    exact a.asc.imp fun q => by omega
  · obtain ⟨u, hu, rfl⟩ := List.mem_map.mp (show t ∈ g.map fun t => (t.1 + n, t.2) from ht)
    exact a.rng u hu
/-- 1 at 0, s, .., (n - 1) * s -/
def rounds (n : Nat) (s : Int) : Pol := (List.range n).map fun (m : Nat) => ((m : Int) * s, (1 : Int))
/-- a term times a polynomial; all products of two terms -/
def times (t : Int × Int) (g : Pol) : Pol := g.map fun u => (t.1 + u.1, t.2 * u.2)
def prods (f g : Pol) : Pol := f.flatMap fun t => times t g
theorem prods_nil (g : Pol) : prods [] g = [] := rfl
theorem prods_snoc (f g : Pol) (t : Int × Int) : prods (f ++ [t]) g = prods f g ++ times t g := by
  unfold prods
  rw [List.flatMap_append]
  simp
theorem times_len (t : Int × Int) (g : Pol) : (times t g).length = g.length := by
  unfold times
  rw [List.length_map]
theorem prods_len : ∀ f g : Pol, (prods f g).length = f.length * g.length
  | [], g => by simp [prods]
  | t :: r, g => by
    show (times t g ++ prods r g).length = _
    rw [List.length_append, times_len, prods_len r g, List.length_cons, Nat.add_mul, Nat.one_mul, Nat.add_comm]
theorem prods_mem {f g : Pol} {x : Int × Int} (h : x ∈ prods f g) : ∃ t ∈ f, ∃ u ∈ g, x = (t.1 + u.1, t.2 * u.2) := by
  obtain ⟨t, ht, hx⟩ := List.mem_flatMap.mp h
  obtain ⟨u, hu, rfl⟩ := List.mem_map.mp (show x ∈ g.map fun u => (t.1 + u.1, t.2 * u.2) from hx)
  exact ⟨t, ht, u, hu, rfl⟩
end DR
/-! Products of polynomials: a ring without divisors of zero, modulo a prime. -/
namespace DR
/-- what the products of two polynomials are worth at e -/
def conv : Pol → (Int → Int) → Int → Int
  | [], _, _ => 0
  | t :: r, G, e => t.2 * G (e - t.1) + conv r G e
theorem cf_times (t : Int × Int) : ∀ (g : Pol) (e : Int), cf (times t g) e = t.2 * cf g (e - t.1)
  | [], e => by simp [times, cf]
  | u :: r, e => by
    show (if t.1 + u.1 = e then t.2 * u.2 else 0) + cf (times t r) e = t.2 * ((if u.1 = e - t.1 then u.2 else 0) + cf r (e - t.1))
    rw [cf_times t r e, Int.mul_add]
    by_cases h : t.1 + u.1 = e
    · rw [if_pos h, if_pos (by omega)]
    · rw [if_neg h, if_neg (by omega), Int.mul_zero]
theorem cf_prods : ∀ (f g : Pol) (e : Int), cf (prods f g) e = conv f (cf g) e
  | [], g, e => rfl
  | t :: r, g, e => by
    show cf (times t g ++ prods r g) e = _
    rw [cf_append, cf_times, cf_prods r g e]
    rfl
theorem conv_add (G G' : Int → Int) : ∀ (f : Pol) (e : Int), conv f (fun x => G x + G' x) e = conv f G e + conv f G' e
  | [], e => rfl
  | t :: r, e => by
    show t.2 * (G (e - t.1) + G' (e - t.1)) + conv r _ e = (t.2 * G (e - t.1) + conv r G e) + (t.2 * G' (e - t.1) + conv r G' e)
    rw [conv_add G G' r e, Int.mul_add]
    omega
theorem conv_congr {G G' : Int → Int} (h : ∀ x, G x = G' x) : ∀ (f : Pol) (e : Int), conv f G e = conv f G' e
  | [], e => rfl
  | t :: r, e => by
    show t.2 * G (e - t.1) + conv r G e = t.2 * G' (e - t.1) + conv r G' e
    rw [h, conv_congr h r e]
theorem conv_mod {p : Int} {G G' : Int → Int} (h : ∀ x, G x % p = G' x % p) : ∀ (f : Pol) (e : Int), conv f G e % p = conv f G' e % p
  | [], e => rfl
  | t :: r, e => by
    show (t.2 * G (e - t.1) + conv r G e) % p = (t.2 * G' (e - t.1) + conv r G' e) % p
    rw [Int.add_emod, Int.mul_emod, h, conv_mod h r e, ← Int.mul_emod, ← Int.add_emod]
theorem conv_smul (k : Int) (G : Int → Int) : ∀ (f : Pol) (e : Int), conv f (fun x => k * G x) e = k * conv f G e
  | [], e => by show (0 : Int) = k * 0; rw [Int.mul_zero]
  | t :: r, e => by
    show t.2 * (k * G (e - t.1)) + conv r _ e = k * (t.2 * G (e - t.1) + conv r G e)
    rw [conv_smul k G r e, Int.mul_add, Int.mul_left_comm]
/-- a single term added on the right -/
theorem conv_snd (u : Int × Int) (G : Int → Int) (f : Pol) (e : Int) : conv f (fun x => (if u.1 = x then u.2 else 0) + G x) e = u.2 * cf f (e - u.1) + conv f G e := by
  rw [conv_add]
  congr 1
  induction f with
  | nil => show (0 : Int) = u.2 * 0; rw [Int.mul_zero]
  | cons t r ih =>
    show t.2 * (if u.1 = e - t.1 then u.2 else 0) + conv r _ e = u.2 * ((if t.1 = e - u.1 then t.2 else 0) + cf r (e - u.1))
    rw [ih, Int.mul_add]
    by_cases h : u.1 = e - t.1
    · rw [if_pos h, if_pos (by omega), Int.mul_comm]
    · rw [if_neg h, if_neg (by omega), Int.mul_zero, Int.mul_zero]
theorem conv_zero : ∀ (f : Pol) (e : Int), conv f (fun _ => 0) e = 0
  | [], e => rfl
  | t :: r, e => by
    show t.2 * 0 + conv r _ e = 0
    rw [conv_zero r e, Int.mul_zero]
    rfl
/-- both ways about -/
theorem conv_comm : ∀ (g f : Pol) (e : Int), conv f (cf g) e = conv g (cf f) e
  | [], f, e => (conv_congr (G' := fun _ => 0) (fun _ => rfl) f e).trans (conv_zero f e)
  | u :: r, f, e => by
    show conv f (fun x => (if u.1 = x then u.2 else 0) + cf r x) e = u.2 * cf f (e - u.1) + conv r (cf f) e
    rw [conv_snd, conv_comm r f e]
/-- f counts by its worth alone, modulo p -/
theorem conv_fst {p : Int} {f f' : Pol} (h : ∀ x, cf f x % p = cf f' x % p) (g : Pol) (e : Int) : conv f (cf g) e % p = conv f' (cf g) e % p := by
  rw [conv_comm g f, conv_comm g f', conv_mod h g e]
theorem conv_append : ∀ (f f' : Pol) (G : Int → Int) (e : Int), conv (f ++ f') G e = conv f G e + conv f' G e
  | [], f', G, e => by show conv f' G e = 0 + conv f' G e; rw [Int.zero_add]
  | t :: r, f', G, e => by
    show t.2 * G (e - t.1) + conv (r ++ f') G e = (t.2 * G (e - t.1) + conv r G e) + conv f' G e
    rw [conv_append r f' G e]
    omega
theorem conv_times (t : Int × Int) (G : Int → Int) : ∀ (g : Pol) (e : Int), conv (times t g) G e = t.2 * conv g G (e - t.1)
  | [], e => by show (0 : Int) = t.2 * 0; rw [Int.mul_zero]
  | u :: r, e => by
    show (t.2 * u.2) * G (e - (t.1 + u.1)) + conv (times t r) G e = t.2 * (u.2 * G (e - t.1 - u.1) + conv r G (e - t.1))
    rw [conv_times t G r e, Int.mul_add, Int.mul_assoc, show e - (t.1 + u.1) = e - t.1 - u.1 by omega]
theorem conv_assoc : ∀ (f g : Pol) (G : Int → Int) (e : Int), conv (prods f g) G e = conv f (conv g G) e
  | [], g, G, e => rfl
  | t :: r, g, G, e => by
    show conv (times t g ++ prods r g) G e = t.2 * conv g G (e - t.1) + conv r (conv g G) e
    rw [conv_append, conv_times, conv_assoc r g G e]
theorem conv_moved (n : Int) (G : Int → Int) : ∀ (f : Pol) (e : Int), conv (moved n f) G e = conv f G (e - n)
  | [], e => rfl
  | t :: r, e => by
    show t.2 * G (e - (t.1 + n)) + conv (moved n r) G e = t.2 * G (e - n - t.1) + conv r G (e - n)
    rw [conv_moved n G r e, show e - (t.1 + n) = e - n - t.1 by omega]
theorem mul_emod_l (a b p : Int) : a % p * b % p = a * b % p := by rw [Int.mul_emod, Int.emod_emod, ← Int.mul_emod]
theorem add_emod_l (a b p : Int) : (a % p + b) % p = (a + b) % p := Int.emod_add_emod a p b
theorem sub_mod_eq {a b p : Int} (h : (a - b) % p = 0) : a % p = b % p := by
  have : a = b + (a - b) := by omega
  rw [this, Int.add_emod, h, Int.add_zero, Int.emod_emod]
/-- the least exponents' term of a product -/
theorem conv_least {t u : Int × Int} {r s : Pol} (h : (t :: r).Pairwise fun x y => x.1 < y.1) (h' : (u :: s).Pairwise fun x y => x.1 < y.1) : conv (t :: r) (cf (u :: s)) (t.1 + u.1) = t.2 * u.2 := by
  show t.2 * cf (u :: s) (t.1 + u.1 - t.1) + conv r (cf (u :: s)) (t.1 + u.1) = t.2 * u.2
  rw [show t.1 + u.1 - t.1 = u.1 by omega, cf_head h']
  have : ∀ r : Pol, (∀ x ∈ r, t.1 < x.1) → conv r (cf (u :: s)) (t.1 + u.1) = 0 := by
    intro r
    induction r with
    | nil => intro _; rfl
    | cons x r ih =>
      intro hx
      show x.2 * cf (u :: s) (t.1 + u.1 - x.1) + conv r _ _ = 0
      rw [ih fun y hy => hx y (List.mem_cons_of_mem _ hy), cf_none (u :: s) _ fun y hy e => ?_, Int.mul_zero]
      · rfl
      · have l1 := asc_le h' hy
        have l2 := hx x List.mem_cons_self
        omega
  rw [this r (List.pairwise_cons.mp h).1]
  omega
/-- geometric sums close up -/
theorem rounds_succ (n : Nat) (s : Int) : rounds (n + 1) s = rounds n s ++ [((n : Int) * s, 1)] := by
  unfold rounds
  rw [List.range_succ, List.map_append]
  rfl
theorem rounds_tel (s e : Int) : ∀ n : Nat, cf (rounds n s) e - cf (rounds n s) (e - s) = (if 0 = e then 1 else 0) - (if (n : Int) * s = e then 1 else 0)
  | 0 => by
    show (0 : Int) - 0 = _
    simp
  | n + 1 => by
    rw [rounds_succ, cf_append, cf_append, cf_cons, cf_cons, cf_nil, cf_nil]
    have ih := rounds_tel s e n
    show cf (rounds n s) e + ((if (n : Int) * s = e then 1 else 0) + 0) - (cf (rounds n s) (e - s) + ((if (n : Int) * s = e - s then 1 else 0) + 0)) = _
    have e1 : (((n + 1 : Nat) : Int) * s = e) ↔ ((n : Int) * s = e - s) := by
      rw [Int.natCast_add, Int.add_mul]
      constructor <;> intro h <;> omega
    by_cases h1 : (n : Int) * s = e - s
    · rw [if_pos h1, if_pos (e1.mpr h1)]
      omega
    · rw [if_neg h1, if_neg (fun z => h1 (e1.mp z))]
      omega
end DR
/-! Powers: the rounds of an effect added up, forwards and backwards. -/
namespace DR
def upF (F : Int → Int) (m : Int) : Nat → Int → Int
  | 0, _ => 0
  | n + 1, e => upF F m n e + F (e - (n : Int) * m)
def dnF (F : Int → Int) (m : Int) : Nat → Int → Int
  | 0, _ => 0
  | n + 1, e => dnF F m n e + F (e + ((n : Int) + 1) * m)
/-- what c rounds of an effect with the worth F and the shift m turn -/
def pwF (F : Int → Int) (m : Int) : Int → Int → Int
  | .ofNat n, e => upF F m n e
  | .negSucc n, e => - dnF F m (n + 1) e
theorem pw_zero (F : Int → Int) (m e : Int) : pwF F m 0 e = 0 := rfl
theorem pw_succ (F : Int → Int) (m : Int) : ∀ (c e : Int), pwF F m (c + 1) e = pwF F m c e + F (e - c * m)
  | .ofNat n, e => rfl
  | .negSucc 0, e => by
    show pwF F m (Int.negSucc 0 + 1) e = - (0 + F (e + ((0 : Int) + 1) * m)) + F (e - Int.negSucc 0 * m)
    rw [show Int.negSucc 0 + 1 = 0 from rfl, pw_zero, show Int.negSucc 0 = (-1 : Int) from rfl, show e - -1 * m = e + (0 + 1) * m by omega]
    omega
  | .negSucc (n + 1), e => by
    rw [show Int.negSucc (n + 1) + 1 = Int.negSucc n from rfl]
    show - dnF F m (n + 1) e = - (dnF F m (n + 1) e + F (e + (((n + 1 : Nat) : Int) + 1) * m)) + F (e - Int.negSucc (n + 1) * m)
    have h : Int.negSucc (n + 1) = -(((n + 1 : Nat) : Int) + 1) := by omega
    rw [h, Int.neg_mul, Int.sub_neg]
    omega
theorem int_ind {P : Int → Prop} (h0 : P 0) (hs : ∀ c, P c ↔ P (c + 1)) (c : Int) : P c := by
  have up : ∀ n : Nat, P (n : Int) := fun n => by
    induction n with
    | zero => exact h0
    | succ n ih =>
      have := (hs (n : Int)).mp ih
      exact this
  have dn : ∀ n : Nat, P (-(n : Int)) := fun n => by
    induction n with
    | zero => exact h0
    | succ n ih =>
      refine (hs _).mpr ?_
      rw [show -((n + 1 : Nat) : Int) + 1 = -(n : Int) by omega]
      exact ih
  by_cases h : 0 ≤ c
  · have := up c.toNat
    rw [Int.toNat_of_nonneg h] at this
    exact this
  · have := dn (-c).toNat
    rw [Int.toNat_of_nonneg (by omega), Int.neg_neg] at this
    exact this
theorem pw_add (F : Int → Int) (m a : Int) : ∀ (b e : Int), pwF F m (a + b) e = pwF F m a e + pwF F m b (e - a * m) := by
  intro b
  refine int_ind (P := fun b => ∀ e, pwF F m (a + b) e = pwF F m a e + pwF F m b (e - a * m)) (fun e => ?_) (fun c => ?_) b
  · rw [Int.add_zero, pw_zero, Int.add_zero]
  · have key : ∀ e, F (e - (a + c) * m) = F (e - a * m - c * m) := fun e => by
      congr 1
      rw [Int.add_mul]
      omega
    constructor
    · intro h e
      rw [← Int.add_assoc, pw_succ, pw_succ, h e, key]
      omega
    · intro h e
      have h' := h e
      rw [← Int.add_assoc, pw_succ, pw_succ, key] at h'
      omega
theorem pw_neg (F : Int → Int) (m a e : Int) : pwF F m (-a) e = - pwF F m a (e + a * m) := by
  have h := pw_add F m (-a) a e
  rw [Int.add_left_neg, pw_zero, Int.neg_mul, Int.sub_neg] at h
  omega
theorem pw_one (F : Int → Int) (m e : Int) : pwF F m 1 e = F e := by
  show 0 + F (e - ((0 : Nat) : Int) * m) = F e
  rw [Int.zero_add, show e - ((0 : Nat) : Int) * m = e by omega]
theorem pw_congr {F G : Int → Int} (h : ∀ x, F x = G x) (m c e : Int) : pwF F m c e = pwF G m c e := by
  rw [show F = G from funext h]
theorem pw_mod {q : Int} {F G : Int → Int} (h : ∀ x, F x % q = G x % q) (m : Int) : ∀ c e : Int, pwF F m c e % q = pwF G m c e % q := by
  intro c
  refine int_ind (P := fun c => ∀ e, pwF F m c e % q = pwF G m c e % q) (fun e => rfl) (fun c => ?_) c
  constructor
  · intro k e
    rw [pw_succ, pw_succ, Int.add_emod, k e, h, ← Int.add_emod]
  · intro k e
    have e1 := k e
    rw [pw_succ, pw_succ] at e1
    have e2 : pwF F m c e = pwF F m c e + F (e - c * m) - F (e - c * m) := by omega
    have e3 : pwF G m c e = pwF G m c e + G (e - c * m) - G (e - c * m) := by omega
    rw [e2, e3, Int.sub_emod, e1, h (e - c * m), ← Int.sub_emod]
/-- the inverse's rounds are rounds backwards -/
theorem pw_inv (F : Int → Int) (m : Int) : ∀ c e : Int, pwF (fun x => F (x + m) * -1) (-m) c e = pwF F m (-c) e := by
  intro c
  refine int_ind (P := fun c => ∀ e, pwF (fun x => F (x + m) * -1) (-m) c e = pwF F m (-c) e) (fun e => rfl) (fun c => ?_) c
  have key : ∀ e, pwF F m (-c) e = pwF F m (-(c + 1)) e + F (e + c * m + m) := fun e => by
    have h := pw_succ F m (-(c + 1)) e
    rw [show -(c + 1) + 1 = -c by omega, Int.neg_mul, Int.sub_neg, Int.add_mul, Int.one_mul, ← Int.add_assoc] at h
    exact h
  have k2 : ∀ e, F (e - c * -m + m) * -1 = - F (e + c * m + m) := fun e => by
    rw [show e - c * -m + m = e + c * m + m by rw [Int.mul_neg]; omega]
    omega
  constructor
  · intro h e
    rw [pw_succ, h e, k2, key e]
    omega
  · intro h e
    have h' := h e
    rw [pw_succ, k2] at h'
    rw [key e]
    omega
theorem pw_mul (F : Int → Int) (m a : Int) : ∀ b e : Int, pwF (fun x => pwF F m a x) (a * m) b e = pwF F m (a * b) e := by
  intro b
  refine int_ind (P := fun b => ∀ e, pwF (fun x => pwF F m a x) (a * m) b e = pwF F m (a * b) e) (fun e => by rw [Int.mul_zero, pw_zero, pw_zero]) (fun c => ?_) b
  have key : ∀ e, pwF F m (a * (c + 1)) e = pwF F m (a * c) e + pwF F m a (e - c * (a * m)) := fun e => by
    rw [Int.mul_add, Int.mul_one, pw_add, show a * c * m = c * (a * m) by rw [Int.mul_comm a c, Int.mul_assoc]]
  constructor
  · intro h e
    rw [pw_succ, h e, key e]
  · intro h e
    have h' := h e
    rw [pw_succ, key e] at h'
    omega
/-- led by another effect -/
theorem pw_led (F G : Int → Int) (m n : Int) : ∀ b e : Int, pwF (fun x => G (x + n) * -1 + F (x + n) + G (x + n - m)) m b e = G (e + n) * -1 + pwF F m b (e + n) + G (e + n - b * m) := by
  intro b
  refine int_ind (P := fun b => ∀ e, pwF (fun x => G (x + n) * -1 + F (x + n) + G (x + n - m)) m b e = G (e + n) * -1 + pwF F m b (e + n) + G (e + n - b * m)) (fun e => by rw [pw_zero, pw_zero, Int.zero_mul, Int.sub_zero]; omega) (fun c => ?_) b
  have key : ∀ e, G (e - c * m + n) * -1 + F (e - c * m + n) + G (e - c * m + n - m) = G (e + n - c * m) * -1 + F (e + n - c * m) + G (e + n - (c + 1) * m) := fun e => by
    rw [show e - c * m + n = e + n - c * m by omega, show e + n - c * m - m = e + n - (c + 1) * m by rw [Int.add_mul]; omega]
  constructor
  · intro h e
    rw [pw_succ, pw_succ, h e, key]
    omega
  · intro h e
    have h' := h e
    rw [pw_succ, pw_succ, key] at h'
    omega
theorem conv_rounds (f : Pol) (m : Int) : ∀ (n : Nat) (e : Int), conv f (cf (rounds n m)) e = upF (cf f) m n e
  | 0, e => (conv_congr (G' := fun _ => 0) (fun _ => rfl) f e).trans (conv_zero f e)
  | n + 1, e => by
    have h : ∀ x, cf (rounds (n + 1) m) x = (if ((n : Int) * m, (1 : Int)).1 = x then ((n : Int) * m, (1 : Int)).2 else 0) + cf (rounds n m) x := fun x => by
      rw [rounds_succ, cf_append, cf_cons, cf_nil]
      omega
    rw [conv_congr h, conv_snd, conv_rounds f m n e]
    show 1 * cf f (e - (n : Int) * m) + upF (cf f) m n e = upF (cf f) m n e + cf f (e - (n : Int) * m)
    omega
theorem pw_rounds (f : Pol) (m : Int) {c : Int} (h : 0 ≤ c) (e : Int) : conv f (cf (rounds c.toNat m)) e = pwF (cf f) m c e := by
  obtain ⟨n, rfl⟩ : ∃ n : Nat, c = (n : Int) := ⟨c.toNat, by omega⟩
  rw [Int.toNat_natCast, conv_rounds]
  rfl
theorem up_far {F : Int → Int} {m e : Int} : ∀ n : Nat, (∀ k : Int, k.natAbs ≤ n → F (e - k * m) = 0) → upF F m n e = 0
  | 0, _ => rfl
  | n + 1, h => by
    show upF F m n e + F (e - (n : Int) * m) = 0
    rw [up_far n fun k hk => h k (by omega), h (n : Int) (by omega)]
    rfl
theorem dn_far {F : Int → Int} {m e : Int} : ∀ n : Nat, (∀ k : Int, k.natAbs ≤ n → F (e - k * m) = 0) → dnF F m n e = 0
  | 0, _ => rfl
  | n + 1, h => by
    show dnF F m n e + F (e + ((n : Int) + 1) * m) = 0
    have h1 := h (-((n : Int) + 1)) (by omega)
    rw [Int.neg_mul, Int.sub_neg] at h1
    rw [dn_far n fun k hk => h k (by omega), h1]
    rfl
theorem pw_far {F : Int → Int} {m e : Int} : ∀ c : Int, (∀ k : Int, k.natAbs ≤ c.natAbs → F (e - k * m) = 0) → pwF F m c e = 0
  | .ofNat n, h => up_far n h
  | .negSucc n, h => by
    show - dnF F m (n + 1) e = 0
    rw [dn_far (n + 1) h]
    rfl
theorem pw_flat (F : Int → Int) (e : Int) : ∀ c : Int, pwF F 0 c e = c * F e := by
  intro c
  refine int_ind (P := fun c => pwF F 0 c e = c * F e) (by rw [pw_zero, Int.zero_mul]) (fun c => ?_) c
  rw [pw_succ, Int.mul_zero, Int.sub_zero, Int.add_mul, Int.one_mul]
  omega
end DR
/-! What the laws of one document share: a few rules more of the hand layer, and polynomials in the heap. -/
namespace DR
open PySem PySem.Spec PyProof.Rows L2
section
variable {P : Program} {w : World} {A : Around} {E : Value → Shared → Prop}
/-- the second half of `sorted`: the members stand gathered and are ints; they go into a new list, and that is put in order -/
theorem order_ints {now : Shared} {items : List Value} {nums : List Int} {after : PySem.Fin → Shared → Prop} (whole : IntsAre items nums) (room : items.length ≤ sizeLine)
    (next : ∀ (g : Heap) (arr : Array Value) (stamp : Nat) (ys : List Int), (∀ b u, now.heap.get? b = some u → g.get? b = some u) → g.get? now.heap.objs.size = some (seqObj "list" arr stamp) → IntsAre arr.toList ys →
      ys.Perm nums → ys.Pairwise (· ≤ ·) → after (.done (.ret (.ref now.heap.objs.size))) { now with heap := g }) :
    wpAny (model P w) A (do let l ← newList items; let _ ← holding [l] (call (.builtin "list.sort") [l] []); ret l) after E now := by
  have laid : (now.heap.push (seqObj "list" items.toArray 0)).get? now.heap.objs.size = some (seqObj "list" items.toArray 0) := Heap.get?_push_size _ rfl
  have done : ∀ out : List Value, SrtO.Srtd SrtO.ltIv out → SrtO.Stb SrtO.ltIv out items →
      after (.done (.ret (.ref now.heap.objs.size))) { now with heap := sortedHeap (now.heap.push (seqObj "list" items.toArray 0)) now.heap.objs.size items out.toArray } := fun out asc same => by
    obtain ⟨numb, perm, up⟩ := SrtO.ints_out whole asc same
    obtain ⟨stamp, there⟩ := sortedHeap_at (vs := items) (out := out.toArray) laid
    refine next _ out.toArray stamp (out.map SrtO.iv) (fun b u old => ?_) there (by simpa using numb) perm up
    have below : b < now.heap.objs.size := Heap.lt_size old
    have wider : b < (now.heap.push (seqObj "list" items.toArray 0)).objs.size := by
      rw [size_push']
      exact Nat.lt_succ_of_lt below
    exact (sortedHeap_old (Nat.ne_of_lt below) wider).trans (Heap.get?_push_of_some _ old)
  have sorts := SrtO.list_sort_ord (prog := P) (w := w) (A := A.in1) (E := E) (s := { now with heap := now.heap.push (seqObj "list" items.toArray 0) }) (R := fun r s' => r = .done (.ret .none) ∧ ∃ out : List Value, SrtO.Srtd SrtO.ltIv out ∧ SrtO.Stb SrtO.ltIv out items ∧ s' = { now with heap := sortedHeap (now.heap.push (seqObj "list" items.toArray 0)) now.heap.objs.size items out.toArray })
    SrtO.swo_int laid room (fun two => SrtO.ints_sortable whole two) fun out asc same => ⟨rfl, out, asc, same, rfl⟩
  refine wpAny_bind (wpAny_newList (wpAny_bind (wpAny_holding ?_)) room)
  refine wpAny_call_entry slot_list_sort ⟨_, laid, rfl⟩ entry_list_sort ?_ (args_list_sort _)
  refine wpAny_mono sorts (fun r s' told => ?_) fun e s' told => told
  obtain ⟨rfl, out, asc, same, rfl⟩ := told
  exact ⟨_, rfl, wpAny_pure (done out asc same)⟩
end
section
variable {X : Cx}
/-- sorted(d), the keys ints, however many -/
theorem call_sortedDA (calm : X.calm = true) : CallR X (.builtin "sorted") (fun given G K => ∃ (d : Addr) (kvs : List (Key × V)) (ks : List Int), given = [.ref d] ∧ Rd G d (.dK kvs) ∧ kvs.map (·.1) = ks.map Sum.inl ∧
    ∀ (ys : List Int) (p : Addr), ys.Perm ks → (ys.Pairwise fun u v => u ≤ v) → G p = none → K (.ref p) (upd G p (.lst (ys.map V.int)))) := by
  intro pins now σ G given us K I r told
  obtain ⟨d, kvs, ks, rfl, hd, hks, told⟩ := told
  rw [Vals.ref1 r]
  obtain ⟨few, loose, pairs, rel, dd⟩ := dk_rd I.hok hd
  obtain ⟨ep, at_d⟩ := dd.dictAt
  have keys : pairs.map (·.1) = ks.map Sum.inl := hks ▸ rel.keys.symm
  have len : pairs.length = ks.length := by simpa using congrArg List.length keys
  have lkv : kvs.length = ks.length := by simpa using congrArg List.length hks
  have fits : pairs.length ≤ sizeLine := by
    rw [len, ← lkv]
    exact few
  refine Calls.call_function_entry kind_sorted plain_sorted entry_sorted (args_sorted1 _) ?_
  unfold Builtin.«sorted»
  refine wpAny_bind (m := checkCount "sorted" 1 1 _) (wpAny_pure (wpAny_bind (PySem.W.kdu_collect (A := X.A.in1) (PySem.W.kdl_dict (knd := mixKind X.prog X.w) (kvs := pairs) (ep := ep) loose) (I.ok.hd calm) at_d fits fun g1 toks acc kept each => ?_)))
  have lacc : acc.toList.length = ks.length := by rw [Array.length_toList, each.1, len]
  have whole : IntsAre acc.toList ks := ints_each lacc fun j v e => by
    obtain ⟨k, _, here, like⟩ := each.2 j v (by simpa using e)
    have key : (ks.map Sum.inl)[j]? = some k := by rw [← keys, List.getElem?_map, here]; rfl
    rw [List.getElem?_map] at key
    obtain ⟨y, hy, rfl⟩ := Option.map_eq_some_iff.mp key
    rcases keyIs_shape (show keyIs (Sum.inl y) v = true from like) with ⟨i, t, ek, ev⟩ | ⟨_, _, ek, _⟩
    · cases ek
      exact ⟨y, t, hy, ev⟩
    · cases ek
  have I1 : Inv X pins σ G { now with heap := g1, toks := toks } := I.kept kept
  refine order_ints whole (by rw [lacc, ← lkv]; exact few) fun g arr stamp ys old there numb perm up => ?_
  have fit : (ys.map V.int).length ≤ sizeLine := by
    rw [List.length_map, perm.length_eq, ← lkv]
    exact few
  exact ⟨_, rfl, .ref g1.objs.size, _, I1.laid (t' := toks) (o := .lst (ys.map V.int)) old (Nat.le_refl _) ⟨fit, arr.toList, stamp, vals_of_ints numb, there⟩, rfl, told ys _ perm up (I1.hok.fresh (Nat.le_refl _))⟩
/-- repr(x), x data of any depth, where no other repr runs -/
theorem call_reprD (hg : X.A.guards = some []) (hu : X.A.units + 100 < cLine) : CallR X (.builtin "repr") (fun xs H Q => ∃ (x : V) (d : PyData), xs = [x] ∧ (∃ a, x = .ref a) ∧ Dp X.K H x d ∧ d.showable = true ∧ d.hasDict = false ∧ d.depth ≤ 64 ∧ d.shown.length ≤ sizeLine ∧ Q (.str d.shown) H) := by
  intro pins s σ H xs us Q I r h
  obtain ⟨x, d, rfl, ⟨a, rfl⟩, hd, hs, hn, hz, hl, q⟩ := h
  obtain ⟨u, rfl, rx⟩ := vals1 r
  cases rx
  obtain ⟨as, rd⟩ := Dp.reads I d _ _ hd rfl
  refine repr_of_reads' rd hs (fun z => absurd z (by rw [hn]; exact Bool.false_ne_true)) hg (by omega) (fun _ _ e => e) (fun h' t tk hk => ?_) hl
  exact ⟨.str d.shown, H, I.kept hk, ⟨t, rfl⟩, q⟩
end
end DR
namespace DR
open PySem PySem.Spec PyProof.Rows L2
/-! ### the law's own def is called once, by the caller alone: there no repr runs (guards), which FnOk can't say -/
/-- a promise kept where the law is called -/
def Kept (P : Program) (w : World) (K : PySem.W.Frag) (mg : Str → Option Value) (base : Heap) (f : Addr) (fd : FuncData) (ps : List Str) (sp : Sp) : Prop :=
  ∀ (s : Shared) (H : Hp) (args : Args) (us : List Value) (vs : List V) (Q : VK) (E : XK), Env0 P w K mg base callerA [] s H → BindsTo s fd args (ps.zip us) →
    Vals vs us → sp vs H Q E → codeAny (model P w) callerA (.call (.ref f) args) (CR CX0 [] P w H s Q E) s
theorem kept_of {P : Program} {w : World} {K : PySem.W.Frag} {mg : Str → Option Value} {base : Heap} {x qual : Str} {st : Stmt} {f : Addr} {fd : FuncData} {N ps : List Str} {k : Nat} {sp : Sp} (F : Fun K x qual st f fd) (S : FnScope N ps (defScope st))
    (len : ∀ vs H Q E, sp vs H Q E → vs.length = ps.length) (room : Room (k + 1) callerA)
    (body : ∀ (cdv : Value) (s : Shared) (H : Hp) (vs : List V) (Q : VK) (E : XK), Room k (callerA.deeper (envOfC qual (defScope st) s.heap.objs.size f cdv)) → sp vs H Q E →
      ∃ t, PSs (cxOf CX0 P w K mg base N qual (defScope st) f cdv callerA [] s H E).nox (defBody st) t ∧ t { nx := fun _ H' => Q .non H', rt := Q } (start N vs) H) : Kept P w K mg base f fd ps sp := by
  obtain ⟨_, _, _, _, _, _, cdv, _, _, rfl, found, code⟩ := F.ex
  intro s H args us vs Q E e0 hb r hsp
  have hl := len _ _ _ _ hsp
  have kin : K.In s.heap := e0.mod.kin.keeps fun b o e => (e0.bs b o e).1
  have free := e0.mod.nolimit.keeps fun b o e => (e0.bs b o e).1
  have kinds : ∀ y ∈ ps.zip us, (defScope st).names.lookup y.1 = some .local ∨ ((defScope st).names.lookup y.1 = some .cell ∧ ((cellsFrom (s.heap.objs.size + 1) (defScope st).names []).lookup y.1).isSome = true) := by
    rintro ⟨n, v⟩ hy
    exact (S.par n (List.of_mem_zip hy).1).imp_right fun q => ⟨q, PySem.W.cellsFrom_some _ _ _ (.inl q)⟩
  refine codeAny_call_function room.depth (kin _ _ found) rfl S.co S.gen rfl (PySem.W.codeRec_of kin code) (hb _ _ _ _ ?_)
  refine wpAny_newFunctionEnv_cells S.kind kinds fun env he s1 z => ?_
  subst he
  refine ⟨free.keeps z.toInCall.keep, codeAny_func ?_⟩
  obtain ⟨t, ht, hq⟩ := body cdv s H vs Q E (room.deeper _) hsp
  have I : Inv (cxOf CX0 P w K mg base N qual (defScope st) f cdv callerA [] s H E) [] (start N vs) H s1 := inv_start S room.hd e0 hl r z
  refine wpAny_mono (ht.nox.run [] s1 (start N vs) H _ I hq) (fun fl s2 hs => ?_) fun e s2 hs => hs
  cases fl with
  | ret u =>
    obtain ⟨v, _, H', J, rv, q⟩ := hs
    exact ⟨v, H', J.os, J.bare, J.base, J.hok, rv, q⟩
  | next =>
    obtain ⟨_, H', J, q⟩ := hs
    exact ⟨.non, H', J.os, J.bare, J.base, J.hok, rfl, q⟩
  | brk => exact hs.elim fun _ z => z.elim fun _ y => y.2.elim
  | cont => exact hs.elim fun _ z => z.elim fun _ y => y.2.elim
/-- what the judge asks of the law's call -/
abbrev Passed (before : Shared) : Except Value Flow → Shared → Prop := fun r s' => r = .ok (.ret (.bool true)) ∧ OldK before.heap s'.heap ∧ s'.os = before.os ∧ AllBare s'.gens
/-- the names of the module and of the builtins, as they stand before the call -/
structure Stand (K : PySem.W.Frag) (mg mb : Str → Option Value) (before : Shared) : Prop where
  kin : K.In before.heap
  mod : before.heap.Ns mainGlobals mg
  std : before.heap.Ns builtinsNs mb
  boot : ∀ x : Str, x ≠ "__name__" → mb x = bootBuiltins x
  free : before.heap.NoLimit
  none : before.gens = #[]
theorem law_kept {P : Program} {w : World} {K : PySem.W.Frag} {mg mb : Str → Option Value} {fa a : Addr} {fd : FuncData} {x : Str} {sp : Sp} {s₁ : Shared} {vs : List Value} {ns : List Int}
    (W : Stand K mg mb s₁)
    (ha : s₁.heap.get? a = some { cls := .type "list", data := .seq vs.toArray }) (hi : IntsAre vs ns) (hl : ns.length ≤ sizeLine)
    (F : ∀ base : Heap, K.In base → base.Ns mainGlobals mg → Kept P w K mg base fa fd [x] sp) (hbind : ∀ (s : Shared) (u : Value), BindsTo s fd ⟨[u], []⟩ [(x, u)])
    (hsp : ∀ H : Hp, Only H → SqL K H a (ns.map V.int) → sp [.ref a] H (fun v _ => v = .bl true) fun _ _ _ => False) :
    codeAny (model P w) callerA (.call (.ref fa) ⟨[.ref a], []⟩) (Passed s₁) s₁ := by
  have rv := vals_ints hi
  have core : ∀ H : Hp, Only H → SqL K H a (ns.map V.int) → HOk P w H s₁.heap → (∀ b, b ≠ a → H b = none) → (H a = none ∨ K.lookup a = none) →
      codeAny (model P w) callerA (.call (.ref fa) ⟨[.ref a], []⟩) (Passed s₁) s₁ := by
    intro H hO hS ok Hn hK
    have up : ∀ {b : Addr} {o : Obj}, H b = none → s₁.heap.get? b = some o → (hidT s₁.heap H).get? b = some o := fun q e => hidT_get e q
    have ns' : ∀ {b : Addr} {m : Str → Option Value}, s₁.heap.Ns b m → (hidT s₁.heap H).Ns b m := fun {b m} h => by
      obtain ⟨o, es, ep, e, d, r⟩ := h
      refine ⟨o, es, ep, up (Hn b fun q => ?_) e, d, r⟩
      subst q
      rw [ha] at e
      cases e
      exact nomatch d
    have kin : K.In (hidT s₁.heap H) := fun b o e => by
      refine up ?_ (W.kin b o e)
      by_cases q : b = a
      · rcases hK with z | z
        · rw [q]
          exact z
        · rw [q, z] at e
          cases e
      · exact Hn b q
    have M : Mod K mg (hidT s₁.heap H) := ⟨kin, ns' W.mod, ⟨mb, ns' W.std, W.boot⟩, W.free.elim fun mc z => ⟨mc, ns' z.1, z.2⟩⟩
    have e0 : Env0 P w K mg (hidT s₁.heap H) callerA [] s₁ H := ⟨rfl, M, fun b o e => of_hidT e, Nat.le_of_eq (hidT_size _ _), trivial, fun b z => absurd (show b ∈ ([] : List Addr) from z) (by simp), ok, .of_eq W.none⟩
    refine codeAny_mono (F _ kin (ns' W.mod) s₁ H _ [.ref a] [.ref a] _ _ e0 (hbind s₁ (.ref a)) (.cons rfl .nil) (hsp H hO hS)) fun r s' h => ?_
    cases r with
    | error e => exact False.elim h
    | ok fl =>
      cases fl with
      | ret u =>
        obtain ⟨v, H', os, bare, un, ok', r', q⟩ := h
        obtain rfl : v = .bl true := q
        cases r'
        refine ⟨rfl, OldK.of_keep ?_, os, bare⟩
        intro b o e
        obtain z | ⟨ob, xs, z⟩ := hO b
        · exact un.keep b o e z (fun y => absurd (show b ∈ ([] : List Addr) from y) (by simp)) (by simp)
        · have z1 := (ok _ _ z).1
          have z2 := (ok' _ _ (un.frzs _ _ _ z)).1
          rw [e] at z1
          cases z1
          exact z2
      | next => exact False.elim h
      | brk => exact False.elim h
      | cont => exact False.elim h
  cases hk : K.lookup a with
  | none =>
    refine core (fun b => if b = a then some (.frz { cls := .type "list", data := .seq vs.toArray } (.lst (ns.map V.int))) else none) (fun b => ?_) (.inl (.inr ⟨_, if_pos rfl⟩)) (fun b o e => ?_) (fun b e => if_neg e) (.inr hk)
    · by_cases q : b = a
      · exact .inr ⟨_, _, if_pos q⟩
      · exact .inl (if_neg q)
    · by_cases q : b = a
      · have e' := (if_pos q).symm.trans e
        cases e'
        subst q
        have fit : (ns.map V.int).length ≤ sizeLine := (List.length_map _).symm ▸ hl
        exact ⟨ha, fit, vs, _, rv, ha⟩
      · have e' := (if_neg q).symm.trans e
        cases e'
  | some o =>
    have e := W.kin a o hk
    rw [ha] at e
    cases e
    refine core (fun _ => none) (fun _ => .inl rfl) (.inr ⟨_, vs.toArray, _, hk, rfl, rfl, rfl, ?_, by simpa using rv⟩) (fun b u z => ?_) (fun b _ => rfl) (.inl rfl)
    · simpa [hi.length] using hl
    · have z' : (none : Option HO) = some u := z
      cases z'
/-- the end: the law's promise, kept where it is called, closes the walk -/
theorem walk_kept {l : PySem.W.OpenLaw} {q : Program} {loose : List Str} {XP : (Str → Option Value) → Heap → Prop} {YP : World → Heap → Prop} {d : DefRec} {K : Params → PySem.W.Frag} {sp : PySem.W.Frag → Sp} {x : Str}
    (hn : l.most = some 63) (hdf : d.params.defaults = []) (hY : ∀ (w : World) (h : Heap), YP w h → (K w.params).In h)
    (F : ∀ (w : World) (mg : Str → Option Value) (at_ : Addr) (g : Heap), (K w.params).In g → g.Ns mainGlobals mg → mg d.name = some (.ref at_) →
      ∃ fd : FuncData, (∀ (s : Shared) (u : Value), BindsTo s fd ⟨[u], []⟩ [(x, u)]) ∧ ∀ base : Heap, (K w.params).In base → base.Ns mainGlobals mg → Kept l.prog w (K w.params) mg base at_ fd [x] (sp (K w.params)))
    (hsp : ∀ (K : PySem.W.Frag) (H : Hp) (a : Addr) (ns : List Int), ns.length ≤ 63 → SqL K H a (ns.map V.int) → sp K [.ref a] H (fun v _ => v = .bl true) fun _ _ _ => False) :
    PySem.W.WalkO q loose XP YP l.row.toRowW d [] (fun f vs => PySem.call f vs) := by
  refine Att.attach_call hn hdf ?_
  intro w _ _ mg _ fa _ _ _ _ a _ ns G Y _ _ _ hmg hobj hints hlen hg
  obtain ⟨fd, hb, hF⟩ := F w mg fa _ (hY w _ Y) G.T.g hmg
  exact law_kept ⟨hY w _ Y, G.T.g, G.T.b, G.T.builtins, G.T.nolimit, hg⟩ hobj hints (Nat.le_trans hlen (by decide)) hF hb fun H _ hS => hsp _ H a ns hlen hS
end DR
namespace DR
open PySem PySem.Spec PyProof.Rows L2
/-! ### heaps -/
theorem same_new {H : Hp} {p : Addr} {o : HO} (h : H p = none) : Same H (upd H p o) := fun b u e => by
  rw [upd_ne (ne_of_none e h)]
  exact e
/-- what H does not know may change -/
theorem same_mut {H H' : Hp} {p : Addr} {o : HO} (s : Same H H') (h : H p = none) : Same H (upd H' p o) := fun b u e => by
  rw [upd_ne (ne_of_none e h)]
  exact s b u e
theorem same_t {K : PySem.W.Frag} {H H' : Hp} {a : Addr} {xs : List V} (e : Same H H') (h : SqT K H a xs) : SqT K H' a xs := by
  match h with
  | .inl (.inl z) => exact .inl (.inl (e _ _ z))
  | .inl (.inr ⟨u, z⟩) => exact .inl (.inr ⟨u, e _ _ z⟩)
  | .inr z => exact .inr z
theorem same_l {K : PySem.W.Frag} {H H' : Hp} {a : Addr} {xs : List V} (e : Same H H') (h : SqL K H a xs) : SqL K H' a xs := e.seq h
/-- all but what stands at p stays -/
def Kp (p : Addr) (H H' : Hp) : Prop := ∀ b o, b ≠ p → H b = some o → H' b = some o
theorem Kp.refl (p : Addr) (H : Hp) : Kp p H H := fun _ _ _ e => e
theorem Kp.trans {p : Addr} {H H1 H2 : Hp} (a : Kp p H H1) (b : Kp p H1 H2) : Kp p H H2 := fun c o n e => b c o n (a c o n e)
theorem Same.kp {p : Addr} {H H' : Hp} (s : Same H H') : Kp p H H' := fun b o _ e => s b o e
theorem Kp.upd {p : Addr} {H H' : Hp} {o : HO} (k : Kp p H H') : Kp p H (upd H' p o) := fun b u n e => by
  rw [upd_ne n]
  exact k b u n e
/-- tuples (and what is locked) stay: so every tuple of tuples and numbers does -/
structure Tp (H H' : Hp) : Prop where
  tup : ∀ b xs, H b = some (.tup xs) → H' b = some (.tup xs)
  frz : ∀ b o u, H b = some (.frz o u) → H' b = some (.frz o u)
theorem Same.tp {H H' : Hp} (s : Same H H') : Tp H H' := ⟨fun b xs e => s b _ e, fun b o u e => s b _ e⟩
theorem Tp.refl (H : Hp) : Tp H H := ⟨fun _ _ e => e, fun _ _ _ e => e⟩
theorem Tp.trans {H H1 H2 : Hp} (a : Tp H H1) (b : Tp H1 H2) : Tp H H2 := ⟨fun c xs e => b.tup c xs (a.tup c xs e), fun c o u e => b.frz c o u (a.frz c o u e)⟩
theorem Kp.tp {p : Addr} {H H' : Hp} {kvs : List (Key × V)} (k : Kp p H H') (h : H p = some (.dK kvs)) : Tp H H' :=
  ⟨fun b xs e => k b _ (ne_of e h (by intro z; cases z)) e, fun b o u e => k b _ (ne_of e h (by intro z; cases z)) e⟩
theorem tp_t {K : PySem.W.Frag} {H H' : Hp} {a : Addr} {xs : List V} (e : Tp H H') (h : SqT K H a xs) : SqT K H' a xs := by
  rcases h with (h | ⟨o, h⟩) | h
  · exact .inl (.inl (e.tup _ _ h))
  · exact .inl (.inr ⟨o, e.frz _ _ _ h⟩)
  · exact .inr h
/-- a list, a dict changes or a new thing comes -/
theorem tp_lst {H : Hp} {p : Addr} {xs : List V} {o : HO} (h : H p = some (.lst xs)) : Tp H (upd H p o) :=
  ⟨fun b ys e => by rw [upd_ne (ne_of e h (by intro z; cases z))]; exact e, fun b u v e => by rw [upd_ne (ne_of e h (by intro z; cases z))]; exact e⟩
theorem tp_dK {H : Hp} {p : Addr} {xs : List (Key × V)} {o : HO} (h : H p = some (.dK xs)) : Tp H (upd H p o) :=
  ⟨fun b ys e => by rw [upd_ne (ne_of e h (by intro z; cases z))]; exact e, fun b u v e => by rw [upd_ne (ne_of e h (by intro z; cases z))]; exact e⟩
theorem tp_new {H : Hp} {p : Addr} {o : HO} (h : H p = none) : Tp H (upd H p o) := Same.tp (same_new h)
/-! ### polynomials: tuples (or lists) of pairs of ints -/
def IsPr (K : PySem.W.Frag) (H : Hp) (x : V) (t : Int × Int) : Prop := ∃ a, x = V.ref a ∧ SqT K H a [.int t.1, .int t.2]
abbrev Prs (K : PySem.W.Frag) (H : Hp) : List V → Pol → Prop := Paired (IsPr K H)
def TPol (K : PySem.W.Frag) (H : Hp) (v : V) (f : Pol) : Prop := ∃ a xs, v = .ref a ∧ SqT K H a xs ∧ Prs K H xs f
def LPol (K : PySem.W.Frag) (H : Hp) (v : V) (f : Pol) : Prop := ∃ a xs, v = .ref a ∧ SqL K H a xs ∧ Prs K H xs f
section
variable {K : PySem.W.Frag} {H H' : Hp} {v x : V} {xs ys : List V} {f g : Pol} {t : Int × Int}
theorem IsPr.tp (e : Tp H H') (h : IsPr K H x t) : IsPr K H' x t := h.elim fun a z => ⟨a, z.1, tp_t e z.2⟩
theorem Prs.tp (e : Tp H H') : ∀ {xs : List V} {f : Pol}, Prs K H xs f → Prs K H' xs f
  | _, _, .nil => .nil
  | _, _, .cons r q => .cons (r.tp e) (Prs.tp e q)
theorem TPol.tp (e : Tp H H') (h : TPol K H v f) : TPol K H' v f := by
  obtain ⟨a, xs, rfl, hs, hp⟩ := h
  exact ⟨a, xs, rfl, tp_t e hs, Prs.tp e hp⟩
theorem LPol.same (e : Same H H') (h : LPol K H v f) : LPol K H' v f := by
  obtain ⟨a, xs, rfl, hs, hp⟩ := h
  exact ⟨a, xs, rfl, e.seq hs, Prs.tp (Same.tp e) hp⟩
theorem Prs.snoc : ∀ {xs : List V} {f : Pol}, Prs K H xs f → IsPr K H x t → Prs K H (xs ++ [x]) (f ++ [t])
  | _, _, .nil, h => .cons h .nil
  | _, _, .cons r q, h => .cons r (Prs.snoc q h)
theorem Prs.app : ∀ {xs : List V} {f : Pol}, Prs K H xs f → Prs K H ys g → Prs K H (xs ++ ys) (f ++ g)
  | _, _, .nil, h => h
  | _, _, .cons r q, h => .cons r (Prs.app q h)
theorem Prs.len (h : Prs K H xs f) : xs.length = f.length := Paired.length h
theorem Prs.get : ∀ {xs : List V} {f : Pol} {i : Nat} {x : V}, Prs K H xs f → xs[i]? = some x → ∃ t, f[i]? = some t ∧ IsPr K H x t
  | _, _, _, _, .nil, e => by simp at e
  | _, _, 0, _, .cons r _, e => by
    simp at e
    subst e
    exact ⟨_, rfl, r⟩
  | _, _, i + 1, x, .cons _ q, e => by
    obtain ⟨t, h1, h2⟩ := Prs.get (i := i) (x := x) q (by simpa using e)
    exact ⟨t, by simpa using h1, h2⟩
theorem isPr_new {p : Addr} {t : Int × Int} : IsPr K (upd H p (.tup [.int t.1, .int t.2])) (.ref p) t := ⟨p, rfl, SqT.of upd_same⟩
/-- as data -/
def pr (t : Int × Int) : PyData := .tuple [.int t.1, .int t.2]
def pd (f : Pol) : PyData := .tuple (f.map pr)
theorem IsPr.dp (h : IsPr K H x t) : Dp K H x (pr t) := by
  obtain ⟨a, rfl, hs⟩ := h
  exact .tup hs (.cons (.int _) (.cons (.int _) .nil))
theorem Prs.dp : ∀ {xs : List V} {f : Pol}, Prs K H xs f → DpAll K H xs (f.map pr)
  | _, _, .nil => .nil
  | _, _, .cons r q => .cons r.dp (Prs.dp q)
theorem TPol.dp (h : TPol K H v f) : Dp K H v (pd f) := by
  obtain ⟨a, xs, rfl, hs, hp⟩ := h
  exact .tup hs hp.dp
end
/-! ### how they are shown -/
theorem int_shows {i : Int} (h : i.natAbs < 10 ^ 100) : (PyData.int i).showable = true ∧ ((PyData.int i).shown).length ≤ 101 := by
  refine ⟨decide_eq_true (log2_small (Nat.lt_of_lt_of_le h (by decide +kernel))), ?_⟩
  have e := int_text_length_le10 (k := 100) (by decide) h
  show (Str.ofString (toString i)).length ≤ 101
  rw [PySem.ofString_length]
  exact e
theorem pr_shows {t : Int × Int} (h1 : t.1.natAbs < 10 ^ 100) (h2 : t.2.natAbs < 10 ^ 100) : (pr t).showable = true ∧ (pr t).shown.length ≤ 209 := by
  obtain ⟨a1, a2⟩ := int_shows h1
  obtain ⟨b1, b2⟩ := int_shows h2
  refine ⟨?_, ?_⟩
  · show ((PyData.int t.1).showable && ((PyData.int t.2).showable && true)) = true
    rw [a1, b1]
    rfl
  · show (tupleText [(PyData.int t.1).shown, (PyData.int t.2).shown]).length ≤ 209
    have := tupleText_len_le [(PyData.int t.1).shown, (PyData.int t.2).shown]
    simp only [List.map_cons, List.map_nil, List.sum_cons, List.sum_nil, List.length_cons, List.length_nil] at this
    omega
/-- small enough to be shown -/
structure Sm (f : Pol) : Prop where
  len : f.length ≤ 50000
  abs : ∀ t ∈ f, t.1.natAbs < 10 ^ 100 ∧ t.2.natAbs < 10 ^ 100
theorem prs_shows : ∀ (f : Pol), (∀ t ∈ f, t.1.natAbs < 10 ^ 100 ∧ t.2.natAbs < 10 ^ 100) → PyData.showableAll (f.map pr) = true ∧ PyData.hasDictAll (f.map pr) = false ∧ PyData.depthAll (f.map pr) ≤ 1 ∧ ((PyData.shownAll (f.map pr)).map (·.length)).sum ≤ 209 * f.length ∧ (PyData.shownAll (f.map pr)).length = f.length
  | [], _ => ⟨rfl, rfl, Nat.zero_le _, Nat.zero_le _, rfl⟩
  | t :: r, h => by
    obtain ⟨a1, a2, a3, a4, a5⟩ := prs_shows r fun u hu => h u (List.mem_cons_of_mem _ hu)
    obtain ⟨b1, b2⟩ := pr_shows (h t List.mem_cons_self).1 (h t List.mem_cons_self).2
    refine ⟨?_, ?_, ?_, ?_, ?_⟩
    · show ((pr t).showable && PyData.showableAll (r.map pr)) = true
      rw [a1, b1]
      rfl
    · show ((pr t).hasDict || PyData.hasDictAll (r.map pr)) = false
      rw [a2]
      rfl
    · show max (pr t).depth (PyData.depthAll (r.map pr)) ≤ 1
      have : (pr t).depth = 1 := rfl
      omega
    · show ((pr t).shown.length :: ((PyData.shownAll (r.map pr)).map (·.length))).sum ≤ 209 * (r.length + 1)
      rw [List.sum_cons]
      omega
    · show (PyData.shownAll (r.map pr)).length + 1 = r.length + 1
      rw [a5]
theorem pd_shows {f : Pol} (h : Sm f) : (pd f).showable = true ∧ (pd f).hasDict = false ∧ (pd f).depth ≤ 2 ∧ (pd f).shown.length ≤ 211 * f.length + 3 := by
  obtain ⟨a1, a2, a3, a4, a5⟩ := prs_shows f h.abs
  refine ⟨a1, a2, ?_, ?_⟩
  · show PyData.depthAll (f.map pr) + 1 ≤ 2
    omega
  · show (tupleText (PyData.shownAll (f.map pr))).length ≤ _
    have := tupleText_len_le (PyData.shownAll (f.map pr))
    rw [a5] at this
    omega
/-- what repr asks -/
structure Shows (K : PySem.W.Frag) (H : Hp) (v : V) (d : PyData) : Prop where
  ref : ∃ a, v = .ref a
  dp : Dp K H v d
  s1 : d.showable = true
  s2 : d.hasDict = false
  s3 : d.depth ≤ 64
  s4 : d.shown.length ≤ sizeLine
theorem TPol.shows {K : PySem.W.Frag} {H : Hp} {v : V} {f : Pol} (h : TPol K H v f) (s : Sm f) : Shows K H v (pd f) := by
  obtain ⟨a1, a2, a3, a4⟩ := pd_shows s
  have := s.len
  refine ⟨h.elim fun a z => ⟨a, z.elim fun _ y => y.1⟩, h.dp, a1, a2, by omega, ?_⟩
  rw [sizeLine_eq]
  omega
theorem pr_lay (t : Int × Int) : (pr t).canLay0 = true := rfl
theorem prs_lay : ∀ f : Pol, PyData.canLayAll0 (f.map pr) = true ∧ PyData.depthAll (f.map pr) ≤ 1
  | [] => ⟨rfl, Nat.zero_le _⟩
  | t :: r => by
    obtain ⟨a, b⟩ := prs_lay r
    refine ⟨?_, ?_⟩
    · show ((pr t).canLay0 && PyData.canLayAll0 (r.map pr)) = true
      rw [a]
      rfl
    · show max (pr t).depth (PyData.depthAll (r.map pr)) ≤ 1
      have : (pr t).depth = 1 := rfl
      omega
theorem pd_shaped (f : Pol) : SeqAt.shaped (pd f) = true := by
  obtain ⟨a, b⟩ := prs_lay f
  show (PyData.canLayAll0 (f.map pr) && decide (PyData.depthAll (f.map pr) + 1 ≤ 64)) = true
  rw [a, decide_eq_true (by omega)]
  rfl
/-! ### dicts of ints -/
def kvOf (m : Pol) : List (Key × V) := m.map fun t => (Sum.inl t.1, V.int t.2)
theorem kv_keys (m : Pol) : (kvOf m).map (·.1) = (m.map (·.1)).map Sum.inl := by
  unfold kvOf
  rw [List.map_map, List.map_map]
  rfl
theorem kv_val : ∀ (m : Pol) (e : Int), (m.map (·.1)).Nodup → valV (kvOf m) (Sum.inl e) = if e ∈ m.map (·.1) then some (.int (cf m e)) else none
  | [], e, _ => by simp [kvOf, valV_nil]
  | t :: r, e, h => by
    have n := List.nodup_cons.mp (show (t.1 :: r.map (·.1)).Nodup from h)
    show valV ((Sum.inl t.1, V.int t.2) :: kvOf r) (Sum.inl e) = _
    by_cases q : t.1 = e
    · rw [valV_pos (by rw [q])]
      rw [if_pos (by rw [← q]; exact List.mem_cons_self), cf_cons, if_pos q, cf_out (f := r) (e := e) (by rw [← q]; exact n.1)]
      show some (V.int t.2) = some (V.int (t.2 + 0))
      rw [Int.add_zero]
    · rw [valV_neg (fun z => q (Sum.inl.inj z)), kv_val r e n.2, cf_cons, if_neg q, Int.zero_add]
      have : e ∈ (t :: r).map (·.1) ↔ e ∈ r.map (·.1) := by
        rw [List.map_cons, List.mem_cons]
        exact ⟨fun z => z.elim (fun y => absurd y.symm q) id, .inr⟩
      by_cases z : e ∈ r.map (·.1)
      · rw [if_pos z, if_pos (this.mpr z)]
      · rw [if_neg z, if_neg (fun y => z (this.mp y))]
theorem kv_getD (m : Pol) (e : Int) (h : (m.map (·.1)).Nodup) : (valV (kvOf m) (Sum.inl e)).getD (.int 0) = .int (cf m e) := by
  rw [kv_val m e h]
  by_cases z : e ∈ m.map (·.1)
  · rw [if_pos z]
    rfl
  · rw [if_neg z, cf_out z]
    rfl
theorem kv_has {m : Pol} {e : Int} (h : (m.map (·.1)).Nodup) (z : e ∈ m.map (·.1)) : valV (kvOf m) (Sum.inl e) = some (.int (cf m e)) := by
  rw [kv_val m e h, if_pos z]
theorem put_new : ∀ {m : Pol} {e v : Int}, e ∉ m.map (·.1) → put m e v = m ++ [(e, v)]
  | [], _, _, _ => rfl
  | t :: r, e, v, h => by
    have h1 : t.1 ≠ e := fun z => h (by rw [← z]; exact List.mem_cons_self)
    unfold put
    rw [if_neg h1, put_new fun z => h (List.mem_cons_of_mem _ z)]
    rfl
theorem put_old : ∀ {m : Pol} {e v : Int}, (m.map (·.1)).Nodup → e ∈ m.map (·.1) → put m e v = m.map fun t => if t.1 = e then (t.1, v) else t
  | [], _, _, _, h => absurd h List.not_mem_nil
  | t :: r, e, v, n, h => by
    have nn := List.nodup_cons.mp (show (t.1 :: r.map (·.1)).Nodup from n)
    unfold put
    by_cases q : t.1 = e
    · rw [if_pos q, List.map_cons, if_pos q, q]
      congr 1
      have : ∀ u ∈ r, (if u.1 = e then (u.1, v) else u) = id u := fun u hu => by
        rw [if_neg]
        · rfl
        · intro z
          exact nn.1 (by rw [q, ← z]; exact List.mem_map_of_mem hu)
      rw [List.map_congr_left this, List.map_id]
    · rw [if_neg q, List.map_cons, if_neg q, put_old nn.2]
      rcases List.mem_cons.mp (show e ∈ t.1 :: r.map (·.1) from h) with z | z
      · exact absurd z.symm q
      · exact z
theorem kv_put {m : Pol} {e v : Int} (n : (m.map (·.1)).Nodup) : putK (kvOf m) (Sum.inl e : Key) (.int v) = kvOf (put m e v) := by
  by_cases z : e ∈ m.map (·.1)
  · rw [put_old n z]
    unfold putK
    rw [valV_any, kv_has n z, if_pos (by rfl)]
    unfold kvOf
    rw [List.map_map, List.map_map]
    refine List.map_congr_left fun t _ => ?_
    show (if (Sum.inl t.1 : Key) = Sum.inl e then ((Sum.inl t.1 : Key), V.int v) else (Sum.inl t.1, V.int t.2)) = (Sum.inl (if t.1 = e then (t.1, v) else t).1, V.int (if t.1 = e then (t.1, v) else t).2)
    by_cases q : t.1 = e
    · rw [if_pos q, if_pos (by rw [q])]
    · rw [if_neg q, if_neg (fun y => q (Sum.inl.inj y))]
  · rw [putK_new _ (by rw [kv_val m e n, if_neg z]), put_new z]
    unfold kvOf
    rw [List.map_append]
    rfl
theorem kv_len (m : Pol) : (kvOf m).length = m.length := by
  unfold kvOf
  rw [List.length_map]
theorem sl_of {n : Nat} (h : n ≤ 1000000) : n ≤ sizeLine := by
  rw [sizeLine_eq]
  omega
theorem sl_lt {n : Nat} (h : n ≤ 1000000) : n < sizeLine := by
  rw [sizeLine_eq]
  omega
/-! ### a list of pairs that a comprehension, or a loop, makes -/
structure Grow (K : PySem.W.Frag) (H0 : Hp) (D : Addr) (f : Pol) (H : Hp) : Prop where
  same : Same H0 H
  ex : ∃ xs, H D = some (.lst xs) ∧ Prs K H xs f
section
variable {K : PySem.W.Frag} {H0 H : Hp} {D q : Addr} {f : Pol}
theorem Grow.start (n : H0 D = none) : Grow K H0 D [] (upd H0 D (.lst [])) := ⟨same_new n, [], upd_same, .nil⟩
theorem Grow.step (n : H0 D = none) (g : Grow K H0 D f H) (hq : H q = none) (e c : Int) (hl : f.length < 1000000) :
    ∃ acc, upd H q (.tup [.int e, .int c]) D = some (.lst acc) ∧ acc.length < sizeLine ∧ Grow K H0 D (f ++ [(e, c)]) (upd (upd H q (.tup [.int e, .int c])) D (.lst (acc ++ [.ref q]))) := by
  obtain ⟨s, xs, hD, hP⟩ := g
  have nDq : D ≠ q := ne_of_none hD hq
  have h1 : upd H q (.tup [.int e, .int c]) D = some (.lst xs) := by
    rw [upd_ne nDq]
    exact hD
  have t1 : Tp H (upd H q (.tup [.int e, .int c])) := tp_new hq
  have t2 : Tp (upd H q (.tup [.int e, .int c])) (upd (upd H q (.tup [.int e, .int c])) D (.lst (xs ++ [.ref q]))) := tp_lst h1
  refine ⟨xs, h1, sl_lt (by rw [hP.len]; omega), same_mut (s.trans (same_new hq)) n, _, upd_same, Prs.snoc (Prs.tp (t1.trans t2) hP) (IsPr.tp t2 ?_)⟩
  exact isPr_new (t := (e, c))
end
theorem ints_get {ys : List Int} {i : Nat} {x : V} (h : (ys.map V.int)[i]? = some x) : ∃ e, ys[i]? = some e ∧ x = .int e := by
  rw [List.getElem?_map] at h
  cases q : ys[i]? with
  | none =>
    rw [q] at h
    cases h
  | some e =>
    rw [q] at h
    exact ⟨e, rfl, (Option.some.inj h).symm⟩
theorem take_snoc {α : Type} {ys : List α} {i : Nat} {e : α} (h : ys[i]? = some e) : ys.take (i + 1) = ys.take i ++ [e] := by
  rw [List.take_add_one, h]
  rfl
theorem dget_int {H : Hp} {d : Addr} {m : Pol} {e : Int} (h : H d = some (.dK (kvOf m))) (n : (m.map (·.1)).Nodup) (z : e ∈ m.map (·.1)) : DGet H d (.int e) (some (.int (cf m e))) := by
  have := DGet.k (k := (Sum.inl e : Key)) h
  rw [kv_has n z] at this
  exact this
theorem dget_any {H : Hp} {d : Addr} {m : Pol} (e : Int) (h : H d = some (.dK (kvOf m))) : DGet H d (.int e) (valV (kvOf m) (Sum.inl e)) := DGet.k (k := (Sum.inl e : Key)) h
theorem dput_int {H : Hp} {d : Addr} {m : Pol} (e v : Int) (h : H d = some (.dK (kvOf m))) (n : (m.map (·.1)).Nodup) (hl : m.length ≤ 1000000) : DPut H d (.int e) (.int v) (upd H d (.dK (kvOf (put m e v)))) := by
  have := DPut.k (k := (Sum.inl e : Key)) (v := .int v) h (by rw [kv_len]; exact sl_lt hl)
  rw [kv_put n] at this
  exact this
/-! ### a def of the text by its name, and its call -/
structure Cal (P : Program) (w : World) (K : PySem.W.Frag) (mg : Str → Option Value) (base : Heap) (k : Nat) (x : Str) (sp : Sp) : Prop where
  ex : ∃ (f : Addr) (fd : FuncData) (ps : List Str), FnOk P w K mg base CX0 k f fd ps sp ∧ mg x = some (.ref f) ∧ PySem.W.keepIn K (.ref f) = true ∧ Binds K fd ps []
theorem pe_c {X : Cx} {k j : Nat} {x : Str} {sp : Sp} {p pos : Pos} {e : Expr} {es : List Expr} {t : TA} (c : Cal X.prog X.w X.K X.mg X.base k x sp) (hr : Room j X.A) (hk : k ≤ j) (hg : Gl X x) (ha : PA X (e :: es) t)
    (h1 : (x == ("__debug__" : Str)) = false := by decide) (h2 : starEach (e :: es) X.env = (false, eval e X.env) :: starEach es X.env := by rfl) (h3 : (backTo pos (starEach es X.env)).any (·.1) = false := by rfl) :
    PE X (.Call (.Name x p) (e :: es) [] pos) (tCall sp [] E0 t) := by
  obtain ⟨f, fd, ps, F, hm, kp, b⟩ := c.ex
  exact pe_call F (hr.mono hk) hg hm kp b .nil pass0 ha h1 h2 h3
/-! ### comprehensions that make pairs -/
section
variable {K : PySem.W.Frag} {a : Addr} {xs : List V} {f : Pol} {σ : L2.St} {H : Hp} {vs : List Nat} {n i j : Nat} {te : TE} {Q : VK}
/-- [(.., ..) for x, y in a tuple of pairs] -/
theorem lcT (G : Int × Int → Int × Int) (hv : σ[n]? = some (some (.ref a))) (hs : SqT K H a xs) (hP : Prs K H xs f) (hl : f.length ≤ 1000000)
    (hw : ∀ x y, wipe (((wipe σ vs).set i (some x)).set j (some y)) vs = wipe σ vs)
    (he : ∀ t ∈ f, ∀ H2, Same H H2 → ∀ R : VK, (∀ q, H2 q = none → R (.ref q) (upd H2 q (.tup [.int (G t).1, .int (G t).2]))) → te (((wipe σ vs).set i (some (.int t.1))).set j (some (.int t.2))) H2 R)
    (k : ∀ D H2, H D = none → Grow K H D (f.map G) H2 → Q (.ref D) H2) : tLc (iTup K (tVar n)) (gTup K 2 (gCons (gName i) (gCons (gName j) gNil))) tYes te vs σ H Q := by
  refine ⟨_, hv, a, rfl, ⟨_, hs⟩, fun D nD => lc_tup (K := K) (a := a) (xs := xs) (fun m H2 => Grow K H D ((f.take m).map G) H2) (.start nD) (fun m H2 _ g => same_t g.same hs) ?_ ?_⟩
  · intro m x H2 hm g
    obtain ⟨t, ht, b, rfl, hb⟩ := hP.get hm
    refine ⟨b, _, rfl, same_t g.same hb, rfl, _, _, rfl, _, _, rfl, rfl, hw _ _, ?_⟩
    dsimp only [tYes]
    rw [if_pos rfl]
    refine (he t (List.mem_of_getElem? ht) H2 g.same _ fun q nq => ?_)
    rw [take_snoc ht, List.map_append]
    refine g.step nD nq (G t).1 (G t).2 ?_
    have : m < f.length := (List.getElem?_eq_some_iff.mp ht).1
    rw [List.length_map, List.length_take]
    omega
  · intro H2 g
    rw [hP.len, List.take_length] at g
    exact k D H2 nD g
/-- the same over a list of pairs -/
theorem lcL (G : Int × Int → Int × Int) (hv : σ[n]? = some (some (.ref a))) (hs : SqL K H a xs) (hP : Prs K H xs f) (hl : f.length ≤ 1000000)
    (hw : ∀ x y, wipe (((wipe σ vs).set i (some x)).set j (some y)) vs = wipe σ vs)
    (he : ∀ t ∈ f, ∀ H2, Same H H2 → ∀ R : VK, (∀ q, H2 q = none → R (.ref q) (upd H2 q (.tup [.int (G t).1, .int (G t).2]))) → te (((wipe σ vs).set i (some (.int t.1))).set j (some (.int t.2))) H2 R)
    (k : ∀ D H2, H D = none → Grow K H D (f.map G) H2 → Q (.ref D) H2) : tLc (iList K (tVar n)) (gTup K 2 (gCons (gName i) (gCons (gName j) gNil))) tYes te vs σ H Q := by
  refine ⟨_, hv, a, rfl, ⟨_, hs⟩, fun D nD => lc_list (K := K) (a := a) (xs := xs) (fun m H2 => Grow K H D ((f.take m).map G) H2) (.start nD) (fun m H2 _ g => same_l g.same hs) ?_ ?_⟩
  · intro m x H2 hm g
    obtain ⟨t, ht, b, rfl, hb⟩ := hP.get hm
    refine ⟨b, _, rfl, same_t g.same hb, rfl, _, _, rfl, _, _, rfl, rfl, hw _ _, ?_⟩
    dsimp only [tYes]
    rw [if_pos rfl]
    refine (he t (List.mem_of_getElem? ht) H2 g.same _ fun q nq => ?_)
    rw [take_snoc ht, List.map_append]
    refine g.step nD nq (G t).1 (G t).2 ?_
    have : m < f.length := (List.getElem?_eq_some_iff.mp ht).1
    rw [List.length_map, List.length_take]
    omega
  · intro H2 g
    rw [hP.len, List.take_length] at g
    exact k D H2 nD g
/-- [(.., ..) for k in range(n)] -/
theorem lcR (G : Nat → Int × Int) {c : Int} {tn : TE} (hv : ∀ R : VK, R (.int c) H → tn σ H R) (h0 : 0 ≤ c) (hl : c ≤ 1000000)
    (hw : ∀ x, wipe ((wipe σ vs).set i (some x)) vs = wipe σ vs)
    (he : ∀ m, m < c.toNat → ∀ H2, Same H H2 → ∀ R : VK, (∀ q, H2 q = none → R (.ref q) (upd H2 q (.tup [.int (G m).1, .int (G m).2]))) → te ((wipe σ vs).set i (some (.int (0 + (m : Int))))) H2 R)
    (k : ∀ D H2, H D = none → Grow K H D ((List.range c.toNat).map G) H2 → Q (.ref D) H2) : tLc (iRng1 (tCons tn tNil)) (gName i) tYes te vs σ H Q := by
  refine hv _ ⟨c, rfl, by omega, by omega, fun D nD => lc_range (lo := 0) (n := c.toNat) (fun m H2 => Grow K H D ((List.range m).map G) H2) (.start nD) ?_ fun H2 g => k D H2 nD g⟩
  intro m H2 hm g
  refine ⟨hw _, ?_⟩
  dsimp only [tYes]
  rw [if_pos rfl]
  refine (he m hm H2 g.same _ fun q nq => ?_)
  rw [List.range_succ, List.map_append]
  refine g.step nD nq (G m).1 (G m).2 ?_
  rw [List.length_map, List.length_range]
  omega
end
theorem Grow.lpol {K : PySem.W.Frag} {H0 H : Hp} {D : Addr} {f : Pol} (g : Grow K H0 D f H) : LPol K H (.ref D) f := by
  obtain ⟨xs, h1, h2⟩ := g.ex
  exact ⟨D, xs, rfl, SqL.of h1, h2⟩
/-- tuple(the list of pairs) -/
theorem rd_tuple {K : PySem.W.Frag} {H0 H : Hp} {D : Addr} {f : Pol} {Q : VK} (g : Grow K H0 D f H) (k : ∀ v H', Same H0 H' → TPol K H' v f → Q v H') :
    ∃ p ys, [V.ref D] = [V.ref p] ∧ ((SqL K H p ys ∧ ∀ l, H l = none → Q (.ref l) (upd H l (.tup ys))) ∨ (SqT K H p ys ∧ Q (.ref p) H)) := by
  obtain ⟨xs, h1, h2⟩ := g.ex
  exact ⟨D, xs, rfl, .inl ⟨SqL.of h1, fun l nl => k _ _ (g.same.trans (same_new nl)) ⟨l, xs, rfl, SqT.of upd_same, Prs.tp (tp_new nl) h2⟩⟩⟩
/-! ### a def as the top leaves it -/
structure Df (K : PySem.W.Frag) (mg : Str → Option Value) (x : Str) (st : Stmt) : Prop where
  ex : ∃ (f : Addr) (fd : FuncData), Fun K x x st f fd ∧ mg x = some (.ref f) ∧ PySem.W.keepIn K (.ref f) = true
theorem df_mk {K : PySem.W.Frag} {h : Heap} {mg : Str → Option Value} {x : Str} {st : Stmt} {f : Addr} {oc : Value} {od an : Option Addr} {osl : Array (Option Value)} {kV doc pm cdv ct : Value} (X : K.In h) (G : h.Ns mainGlobals mg)
    (a : PySem.W.nsIn K mainGlobals x = some (some (.ref f))) (l : K.lookup f = some ⟨oc, od, .func (PySem.W.fnOf x x (defArgs st) (defBody st) (defScope st) .none kV doc pm an cdv ct), osl⟩) (c : PySem.W.codeIn K cdv x = true) (k : PySem.W.keepIn K (.ref f) = true) : Df K mg x st :=
  ⟨f, _, fun_mk (st := st) l c k, PySem.W.mg_of X G a, k⟩
theorem cal_of {P : Program} {w : World} {K : PySem.W.Frag} {mg : Str → Option Value} {base : Heap} {k : Nat} {x : Str} {st : Stmt} {ps : List Str} {sp : Sp} (D : Df K mg x st)
    (b : ∀ (kV doc pm : Value) (an : Option Addr) (cdv ct : Value) (us : List Value), us.length = ps.length → bindArgs (PySem.W.fnOf x x (defArgs st) (defBody st) (defScope st) .none kV doc pm an cdv ct) ⟨us, []⟩ = pure (ps.zip us))
    (ok : ∀ f fd, Fun K x x st f fd → FnOk P w K mg base CX0 k f fd ps sp) : Cal P w K mg base k x sp := by
  obtain ⟨f, fd, F, hm, kp⟩ := D.ex
  exact ⟨f, fd, ps, ok f fd F, hm, kp, F.binds b⟩
/-- the law's own def -/
theorem law_of {l : PySem.W.OpenLaw} {w : World} {K : PySem.W.Frag} {mg : Str → Option Value} {fa : Addr} {x y : Str} {st : Stmt} {sp : Sp} (hfa : mg x = some (.ref fa)) (D : Df K mg x st)
    (b : ∀ (kV doc pm : Value) (an : Option Addr) (cdv ct : Value) (s : Shared) (v : Value), BindsTo s (PySem.W.fnOf x x (defArgs st) (defBody st) (defScope st) .none kV doc pm an cdv ct) ⟨[v], []⟩ [(y, v)])
    (ok : ∀ (base : Heap) f fd, Fun K x x st f fd → Kept l.prog w K mg base f fd [y] sp) :
    ∃ fd : FuncData, (∀ (s : Shared) (v : Value), BindsTo s fd ⟨[v], []⟩ [(y, v)]) ∧ ∀ base : Heap, K.In base → base.Ns mainGlobals mg → Kept l.prog w K mg base fa fd [y] sp := by
  obtain ⟨f, fd, F, hm, kp⟩ := D.ex
  cases hfa.symm.trans hm
  refine ⟨fd, ?_, fun base _ _ => ok base fa fd F⟩
  obtain ⟨_, _, kV, doc, pm, an, cdv, ct, _, rfl, _⟩ := F.ex
  exact b kV doc pm an cdv ct
theorem gName_app {i : Nat} {v : V} {σ : L2.St} {H : Hp} {Q : L2.St → Hp → Prop} : gName i v σ H Q = Q (σ.set i (some v)) H := rfl
end DR
namespace DR
open PySem PySem.Spec PyProof.Rows L2
/-! ### the pen that draws from the script -/
theorem n_cu : ¬ ((Sum.inr ("cells" : Str) : Key) = Sum.inr ("used" : Str)) := by decide +kernel
theorem n_cl : ¬ ((Sum.inr ("cells" : Str) : Key) = Sum.inr ("left" : Str)) := by decide +kernel
theorem n_ul : ¬ ((Sum.inr ("used" : Str) : Key) = Sum.inr ("left" : Str)) := by decide +kernel
theorem n_uc : ¬ ((Sum.inr ("used" : Str) : Key) = Sum.inr ("cells" : Str)) := by decide +kernel
theorem n_lc : ¬ ((Sum.inr ("left" : Str) : Key) = Sum.inr ("cells" : Str)) := by decide +kernel
theorem n_lu : ¬ ((Sum.inr ("left" : Str) : Key) = Sum.inr ("used" : Str)) := by decide +kernel
def penKv (c : Addr) (u l : Int) : List (Key × V) := [(Sum.inr ("cells" : Str), .ref c), (Sum.inr ("used" : Str), .int u), (Sum.inr ("left" : Str), .int l)]
section
variable (c : Addr) (u l x : Int)
theorem pen_cells : valV (penKv c u l) (Sum.inr ("cells" : Str) : Key) = some (.ref c) := valV_pos rfl
theorem pen_used : valV (penKv c u l) (Sum.inr ("used" : Str) : Key) = some (.int u) := by
  unfold penKv
  rw [valV_neg n_cu, valV_pos rfl]
theorem pen_left : valV (penKv c u l) (Sum.inr ("left" : Str) : Key) = some (.int l) := by
  unfold penKv
  rw [valV_neg n_cl, valV_neg n_ul, valV_pos rfl]
theorem pen_setU : putK (penKv c u l) (Sum.inr ("used" : Str) : Key) (.int x) = penKv c x l := by
  unfold putK
  rw [valV_any, pen_used, if_pos (by rfl)]
  unfold penKv
  rw [List.map_cons, List.map_cons, List.map_cons, List.map_nil, if_neg n_cu, if_pos rfl, if_neg n_lu]
theorem pen_setL : putK (penKv c u l) (Sum.inr ("left" : Str) : Key) (.int x) = penKv c u x := by
  unfold putK
  rw [valV_any, pen_left, if_pos (by rfl)]
  unfold penKv
  rw [List.map_cons, List.map_cons, List.map_cons, List.map_nil, if_neg n_cl, if_neg n_ul, if_pos rfl]
theorem pen_merge : mergeK [] (penKv c u l) = penKv c u l := by
  have e1 : putK ([] : List (Key × V)) (Sum.inr ("cells" : Str)) (.ref c) = [(Sum.inr ("cells" : Str), .ref c)] := putK_new _ valV_nil
  have e2 : putK ([(Sum.inr ("cells" : Str), .ref c)] : List (Key × V)) (Sum.inr ("used" : Str)) (.int u) = [(Sum.inr ("cells" : Str), .ref c), (Sum.inr ("used" : Str), .int u)] := putK_new _ (by rw [valV_neg n_cu]; exact valV_nil)
  have e3 : putK ([(Sum.inr ("cells" : Str), .ref c), (Sum.inr ("used" : Str), .int u)] : List (Key × V)) (Sum.inr ("left" : Str)) (.int l) = penKv c u l := putK_new _ (by rw [valV_neg n_cl, valV_neg n_ul]; exact valV_nil)
  show putK (putK (putK ([] : List (Key × V)) (Sum.inr ("cells" : Str)) (.ref c)) (Sum.inr ("used" : Str)) (.int u)) (Sum.inr ("left" : Str)) (.int l) = _
  rw [e1, e2, e3]
end
/-- a pen at p, its cells at c, that has drawn at most n numbers -/
structure PenAt (H : Hp) (p c : Addr) (n : Nat) : Prop where
  ex : ∃ (ns : List Int) (u l : Int), H p = some (.dK (penKv c u l)) ∧ H c = some (.lst (ns.map V.int)) ∧ 0 ≤ u ∧ u ≤ n
section
variable {H H' : Hp} {p c : Addr} {n m : Nat}
theorem PenAt.dict (h : PenAt H p c n) : ∃ kvs, H p = some (.dK kvs) := by
  obtain ⟨ns, u, l, h1, _⟩ := h.ex
  exact ⟨_, h1⟩
theorem PenAt.cells (h : PenAt H p c n) : ∃ xs, H c = some (.lst xs) := by
  obtain ⟨ns, u, l, _, h2, _⟩ := h.ex
  exact ⟨_, h2⟩
theorem PenAt.np {q : Addr} (h : PenAt H p c n) (hq : H q = none) : q ≠ p := (h.dict.elim fun _ e => ne_of_none e hq).symm
theorem PenAt.nc {q : Addr} (h : PenAt H p c n) (hq : H q = none) : q ≠ c := (h.cells.elim fun _ e => ne_of_none e hq).symm
theorem PenAt.mono (h : PenAt H p c n) (e : n ≤ m) : PenAt H p c m := by
  obtain ⟨ns, u, l, h1, h2, h3, h4⟩ := h.ex
  exact ⟨ns, u, l, h1, h2, h3, by omega⟩
theorem PenAt.same (h : PenAt H p c n) (s : Same H H') : PenAt H' p c n := by
  obtain ⟨ns, u, l, h1, h2, h3⟩ := h.ex
  exact ⟨ns, u, l, s _ _ h1, s _ _ h2, h3⟩
/-- another object changes -/
theorem PenAt.upd {q : Addr} {o : HO} (h : PenAt H p c n) (h1 : q ≠ p) (h2 : q ≠ c) : PenAt (upd H q o) p c n := by
  obtain ⟨ns, u, l, a1, a2, a3⟩ := h.ex
  exact ⟨ns, u, l, by rw [upd_ne h1.symm]; exact a1, by rw [upd_ne h2.symm]; exact a2, a3⟩
theorem PenAt.tp (h : PenAt H p c n) (k : Kp p H H') : Tp H H' := h.dict.elim fun _ e => k.tp e
end
end DR
namespace DR
open PySem PySem.Spec PyProof.Rows L2
/-! ### what the defs promise -/
/-- a polynomial of the law's: canonical, with at most so many terms, its exponents within reach -/
structure Drawn (q : Int) (g : Pol) (terms : Nat) (reach : Int) : Prop where
  nf : Nf q g (cf g)
  len : g.length ≤ terms
  abs : ∀ t ∈ g, t.1.natAbs ≤ reach.natAbs
def primes : List Int := [2, 3, 5, 7, 11, 13, 17, 19, 23, 29, 31, 37, 41, 43, 47, 53, 59, 61, 67, 71, 73, 79, 83, 89, 97]
theorem prime_rng : ∀ q ∈ primes, 2 ≤ q ∧ q ≤ 97 := by decide
def sp_from_sums (K : PySem.W.Frag) : Sp := fun vs H Q _ => ∃ (p : Int) (d : Addr) (m : Pol), vs = [.int p, .ref d] ∧ 0 < p ∧ H d = some (.dK (kvOf m)) ∧ (m.map (·.1)).Nodup ∧ m.length ≤ 1000000 ∧ ∀ v H' g, Same H H' → TPol K H' v g → Nf p g (cf m) → Q v H'
def sp_normalize (K : PySem.W.Frag) : Sp := fun vs H Q _ => ∃ (p : Int) (v : V) (ps : Pol), vs = [.int p, v] ∧ 0 < p ∧ (TPol K H v ps ∨ LPol K H v ps) ∧ ps.length ≤ 1000000 ∧ ∀ u H' g, Same H H' → TPol K H' u g → Nf p g (cf ps) → Q u H'
def sp_scale (K : PySem.W.Frag) : Sp := fun vs H Q _ => ∃ (p : Int) (v : V) (f : Pol) (c : Int), vs = [.int p, v, .int c] ∧ 0 < p ∧ TPol K H v f ∧ f.length ≤ 1000000 ∧ (∀ t ∈ f, -(2 ^ 64) < t.2 ∧ t.2 < 2 ^ 64) ∧ ∀ u H' g, Same H H' → TPol K H' u g → Nf p g (fun e => cf f e * c) → Q u H'
def sp_move (K : PySem.W.Frag) : Sp := fun vs H Q _ => ∃ (v : V) (f : Pol) (n : Int), vs = [v, .int n] ∧ TPol K H v f ∧ f.length ≤ 1000000 ∧ ∀ u H', Same H H' → TPol K H' u (moved n f) → Q u H'
def sp_geometric (K : PySem.W.Frag) : Sp := fun vs H Q _ => ∃ (p n s : Int), vs = [.int p, .int n, .int s] ∧ 0 < p ∧ 0 ≤ n ∧ n ≤ 1000000 ∧ ∀ u H' g, Same H H' → TPol K H' u g → Nf p g (cf (rounds n.toNat s)) → Q u H'
def sp_add (K : PySem.W.Frag) : Sp := fun vs H Q _ => ∃ (p : Int) (v1 v2 : V) (f g : Pol), vs = [.int p, v1, v2] ∧ 0 < p ∧ TPol K H v1 f ∧ TPol K H v2 g ∧ f.length + g.length ≤ 1000000 ∧ ∀ u H' r, Same H H' → TPol K H' u r → Nf p r (fun e => cf f e + cf g e) → Q u H'
def sp_subtract (K : PySem.W.Frag) : Sp := fun vs H Q _ => ∃ (p : Int) (v1 v2 : V) (f g : Pol), vs = [.int p, v1, v2] ∧ 0 < p ∧ TPol K H v1 f ∧ TPol K H v2 g ∧ f.length + g.length ≤ 1000000 ∧ (∀ t ∈ g, -(2 ^ 64) < t.2 ∧ t.2 < 2 ^ 64) ∧ ∀ u H' r, Same H H' → TPol K H' u r → Nf p r (fun e => cf f e - cf g e) → Q u H'
def sp_multiply (K : PySem.W.Frag) : Sp := fun vs H Q _ => ∃ (p : Int) (v1 v2 : V) (f g : Pol), vs = [.int p, v1, v2] ∧ 0 < p ∧ TPol K H v1 f ∧ TPol K H v2 g ∧ f.length * g.length ≤ 1000000 ∧ (∀ t ∈ f, -(2 ^ 64) < t.2 ∧ t.2 < 2 ^ 64) ∧ ∀ u H' r, Same H H' → TPol K H' u r → Nf p r (cf (prods f g)) → Q u H'
def sp__law_pen (K : PySem.W.Frag) : Sp := fun vs H Q _ => ∃ (a : Addr) (ns : List Int), vs = [.ref a] ∧ SqL K H a (ns.map V.int) ∧ ∀ p c H', H p = none → Same H H' → PenAt H' p c 0 → Q (.ref p) H'
def sp__law_draw : Sp := fun vs H Q _ => ∃ (p c : Addr) (many : Int) (n : Nat), vs = [.ref p, .int many] ∧ 0 < many ∧ many.natAbs < 2 ^ 400 ∧ PenAt H p c n ∧ n < 2 ^ 40 ∧ ∀ r H', 0 ≤ r → r < many → Kp p H H' → PenAt H' p c (n + 1) → Q (.int r) H'
def sp__law_pick : Sp := fun vs H Q _ => ∃ (p c o : Addr) (n : Nat) (xs : List V), vs = [.ref p, .ref o] ∧ PenAt H p c n ∧ n < 2 ^ 40 ∧ H o = some (.lst xs) ∧ 0 < xs.length ∧ xs.length ≤ 100000 ∧ ∀ v H', v ∈ xs → Kp p H H' → PenAt H' p c (n + 1) → Q v H'
def sp__law_prime : Sp := fun vs H Q _ => ∃ (p c : Addr) (n : Nat), vs = [.ref p] ∧ PenAt H p c n ∧ n + 2 < 2 ^ 40 ∧ ∀ q H', q ∈ primes → Kp p H H' → PenAt H' p c (n + 2) → Q (.int q) H'
def sp__law_integer : Sp := fun vs H Q _ => ∃ (p c : Addr) (most : Int) (n : Nat), vs = [.ref p, .int most] ∧ 0 ≤ most ∧ most.natAbs < 10 ^ 90 ∧ PenAt H p c n ∧ n < 2 ^ 40 ∧ ∀ r H', r.natAbs ≤ most.natAbs → Kp p H H' → PenAt H' p c (n + 1) → Q (.int r) H'
def sp__law_polynomial (K : PySem.W.Frag) : Sp := fun vs H Q _ => ∃ (p c : Addr) (q terms reach : Int) (n : Nat), vs = [.ref p, .int q, .int terms, .int reach] ∧ 2 ≤ q ∧ q ≤ 97 ∧ 0 ≤ terms ∧ terms ≤ 1000 ∧ 0 ≤ reach ∧ reach.natAbs < 10 ^ 90 ∧ PenAt H p c n ∧ n < 2 ^ 39 ∧
  ∀ v H' g, Kp p H H' → PenAt H' p c (n + 2 * terms.toNat + 1) → TPol K H' v g → Drawn q g terms.toNat reach → Q v H'
theorem mul_room {i j a b : Nat} (hi : i < a) (hj : j < b) (h : a * b ≤ 1000000) : i * b + j < 1000000 := by
  have h1 : (i + 1) * b ≤ a * b := Nat.mul_le_mul_right b hi
  rw [Nat.add_mul, Nat.one_mul] at h1
  omega
theorem neg_mod (a b c p : Int) (h : c = b * -1 % p) : (a + c) % p = (a - b) % p := by
  rw [h, Int.add_emod_emod]
  congr 1
  omega
theorem sm_nf {q : Int} {g : Pol} {F : Int → Int} {L : List Int} (h : Nf q g F) (hq : q ≤ 97) (z : ∀ e, e ∉ L → F e % q = 0) (hl : L.length ≤ 50000) (hb : ∀ e ∈ L, e.natAbs < 10 ^ 100) : Sm g := by
  refine ⟨Nat.le_trans (h.len z) hl, fun t ht => ⟨hb _ (h.sub z t ht), ?_⟩⟩
  have := h.rng t ht
  exact Nat.lt_of_le_of_lt (show t.2.natAbs ≤ 97 by omega) (by decide +kernel)
theorem sm_moved {g : Pol} {n : Int} {q : Int} (hl : g.length ≤ 50000) (hb : ∀ t ∈ g, t.1.natAbs < 10 ^ 95 ∧ 0 < t.2 ∧ t.2 ≤ 97) (hn : n.natAbs < 10 ^ 95) : Sm (moved n g) := by
  refine ⟨by unfold moved; rw [List.length_map]; exact hl, fun t ht => ?_⟩
  obtain ⟨u, hu, rfl⟩ := List.mem_map.mp (show t ∈ g.map fun t => (t.1 + n, t.2) from ht)
  have h1 := hb u hu
  refine ⟨?_, Nat.lt_of_le_of_lt (show u.2.natAbs ≤ 97 by omega) (by decide +kernel)⟩
  have e : 10 ^ 95 + 10 ^ 95 < 10 ^ 100 := by decide +kernel
  show (u.1 + n).natAbs < 10 ^ 100
  omega
theorem drawn_sm {q : Int} {g : Pol} {terms : Nat} {reach : Int} (d : Drawn q g terms reach) (hq : q ≤ 97) (ht : terms ≤ 50000) (hr : reach.natAbs < 10 ^ 90) : Sm g := by
  refine ⟨Nat.le_trans d.len ht, fun t h => ⟨?_, ?_⟩⟩
  · have e : 10 ^ 90 < 10 ^ 100 := by decide +kernel
    have := d.abs t h
    omega
  · have := d.nf.rng t h
    exact Nat.lt_of_le_of_lt (show t.2.natAbs ≤ 97 by omega) (by decide +kernel)
theorem mem_ints {v : V} {ns : List Int} {R : Int → Prop} (h : v ∈ ns.map V.int) (a : ∀ x ∈ ns, R x) : ∃ x, v = .int x ∧ R x := by
  obtain ⟨x, hx, rfl⟩ := List.mem_map.mp h
  exact ⟨x, rfl, a x hx⟩
def sp_law (K : PySem.W.Frag) : Sp := fun vs H Q _ => ∃ (a : Addr) (ns : List Int), vs = [.ref a] ∧ SqL K H a (ns.map V.int) ∧ ns.length ≤ 63 ∧ ∀ H', Q (.bl true) H'
/-! ### effects -/
def TEff (K : PySem.W.Frag) (H : Hp) (v : V) (f : Pol) (n : Int) : Prop := ∃ a x, v = .ref a ∧ SqT K H a [x, .int n] ∧ TPol K H x f
theorem TEff.tp {K : PySem.W.Frag} {H H' : Hp} {v : V} {f : Pol} {n : Int} (e : Tp H H') (h : TEff K H v f n) : TEff K H' v f n := by
  obtain ⟨a, x, rfl, hs, hx⟩ := h
  exact ⟨a, x, rfl, tp_t e hs, hx.tp e⟩
def ed (f : Pol) (n : Int) : PyData := .tuple [pd f, .int n]
theorem TEff.dp {K : PySem.W.Frag} {H : Hp} {v : V} {f : Pol} {n : Int} (h : TEff K H v f n) : Dp K H v (ed f n) := by
  obtain ⟨a, x, rfl, hs, hx⟩ := h
  exact .tup hs (.cons hx.dp (.cons (.int _) .nil))
theorem TEff.shows {K : PySem.W.Frag} {H : Hp} {v : V} {f : Pol} {n : Int} (h : TEff K H v f n) (s : Sm f) (hn : n.natAbs < 10 ^ 100) : Shows K H v (ed f n) := by
  obtain ⟨a1, a2, a3, a4⟩ := pd_shows s
  obtain ⟨b1, b2⟩ := int_shows hn
  have := s.len
  refine ⟨h.elim fun a z => z.elim fun _ y => ⟨a, y.1⟩, h.dp, ?_, ?_, ?_, ?_⟩
  · show ((pd f).showable && ((PyData.int n).showable && true)) = true
    rw [a1, b1]
    rfl
  · show ((pd f).hasDict || (false || false)) = false
    rw [a2]
    rfl
  · show max (pd f).depth (max 0 0) + 1 ≤ 64
    omega
  · show (tupleText [(pd f).shown, (PyData.int n).shown]).length ≤ sizeLine
    have e := tupleText_len_le [(pd f).shown, (PyData.int n).shown]
    simp only [List.map_cons, List.map_nil, List.sum_cons, List.sum_nil, List.length_cons, List.length_nil] at e
    rw [sizeLine_eq]
    omega
theorem ed_shaped (f : Pol) (n : Int) : SeqAt.shaped (ed f n) = true := by
  obtain ⟨a, b⟩ := prs_lay f
  show (((PyData.canLayAll0 (f.map pr)) && (true && true)) && decide (max (PyData.depthAll (f.map pr) + 1) (max 0 0) + 1 ≤ 64)) = true
  rw [a, decide_eq_true (by omega)]
  rfl
def sp_compose (K : PySem.W.Frag) : Sp := fun vs H Q _ => ∃ (p : Int) (v1 v2 : V) (f g : Pol) (m n : Int), vs = [.int p, v1, v2] ∧ 0 < p ∧ TEff K H v1 f m ∧ TEff K H v2 g n ∧ f.length + g.length ≤ 1000000 ∧ ∀ u H' r, Same H H' → TEff K H' u r (m + n) → Nf p r (fun e => cf f e + cf g (e - m)) → Q u H'
def sp_inverse (K : PySem.W.Frag) : Sp := fun vs H Q _ => ∃ (p : Int) (v : V) (f : Pol) (m : Int), vs = [.int p, v] ∧ 0 < p ∧ TEff K H v f m ∧ f.length ≤ 1000000 ∧ (∀ t ∈ f, -(2 ^ 64) < t.2 ∧ t.2 < 2 ^ 64) ∧ ∀ u H' r, Same H H' → TEff K H' u r (-m) → Nf p r (fun e => cf f (e + m) * -1) → Q u H'
def sp__law_effect (K : PySem.W.Frag) : Sp := fun vs H Q _ => ∃ (p c : Addr) (q terms reach : Int) (n : Nat), vs = [.ref p, .int q, .int terms, .int reach] ∧ 2 ≤ q ∧ q ≤ 97 ∧ 0 ≤ terms ∧ terms ≤ 1000 ∧ 0 ≤ reach ∧ reach.natAbs < 10 ^ 90 ∧ PenAt H p c n ∧ n < 2 ^ 38 ∧
  ∀ v H' g sh, Kp p H H' → PenAt H' p c (n + 2 * terms.toNat + 3) → TEff K H' v g sh → Drawn q g terms.toNat reach → sh.natAbs ≤ reach.natAbs → Q v H'
theorem atI3 {a b c : V} {r : Int} (h0 : 0 ≤ r) (h9 : r < 3) : atI [a, b, c] r = some a ∨ atI [a, b, c] r = some b ∨ atI [a, b, c] r = some c := by
  have : r = 0 ∨ r = 1 ∨ r = 2 := by omega
  rcases this with rfl | rfl | rfl
  · exact .inl rfl
  · exact .inr (.inl rfl)
  · exact .inr (.inr rfl)
theorem moved_len (n : Int) (f : Pol) : (moved n f).length = f.length := by
  unfold moved
  rw [List.length_map]
/-! ### a comprehension that draws -/
theorem lcPen {K : PySem.W.Frag} {p c : Addr} {σ : L2.St} {H : Hp} {vs : List Nat} {i : Nat} {te : TE} {Q : VK} (R : Hp → V → Prop) (stay : ∀ {H H' : Hp} {v : V}, Tp H H' → R H v → R H' v) (n : Nat) {z : Int} (hz : z = (n : Int)) (b cost : Nat) (hn : n ≤ 1000)
    (hw : ∀ x, wipe ((wipe σ vs).set i (some x)) vs = wipe σ vs) (pen : PenAt H p c b)
    (he : ∀ (m : Nat), m < n → ∀ H2, Kp p H H2 → PenAt H2 p c (b + cost * m) → ∀ S : VK, (∀ v H3, Kp p H2 H3 → PenAt H3 p c (b + cost * (m + 1)) → R H3 v → S v H3) → te ((wipe σ vs).set i (some (.int (0 + (m : Int))))) H2 S)
    (k : ∀ D xs H2, xs.length = n → H2 D = some (.lst xs) → (∀ v ∈ xs, R H2 v) → Kp p H H2 → PenAt H2 p c (b + cost * n) → Q (.ref D) H2) : tLc (iRng1 (tCons (tC (.int z)) tNil)) (gName i) tYes te vs σ H Q := by
  subst hz
  refine ⟨(n : Int), rfl, by omega, by omega, fun D nD => lc_range (lo := 0) (n := ((n : Int)).toNat) (fun m H2 => ∃ xs, H2 D = some (.lst xs) ∧ xs.length = m ∧ (∀ v ∈ xs, R H2 v) ∧ Kp p H H2 ∧ PenAt H2 p c (b + cost * m)) ⟨[], upd_same, rfl, fun v h => absurd h List.not_mem_nil, Same.kp (same_new nD), pen.same (same_new nD)⟩ ?_ ?_⟩
  · rintro m H2 hm ⟨xs, hD, hl, hR, kp, pen2⟩
    refine ⟨hw _, ?_⟩
    dsimp only [tYes]
    rw [if_pos rfl]
    refine he m (by omega) H2 kp pen2 _ fun v H3 k3 pen3 hv => ?_
    have npD := pen.np nD
    have ncD := pen.nc nD
    have hD3 : H3 D = some (.lst xs) := k3 _ _ npD hD
    refine ⟨xs, hD3, sl_lt (by omega), xs ++ [v], upd_same, by rw [List.length_append, hl]; rfl, fun w hw' => ?_, fun x o nx ex => ?_, pen3.upd npD ncD⟩
    · have t3 : Tp H3 (upd H3 D (.lst (xs ++ [v]))) := tp_lst hD3
      rcases List.mem_append.mp hw' with h | h
      · exact stay ((pen2.tp k3).trans t3) (hR w h)
      · have e : w = v := by simpa using h
        rw [e]
        exact stay t3 hv
    · rw [upd_ne (ne_of_none ex nD)]
      exact k3 _ _ nx (kp _ _ nx ex)
  · rintro H2 ⟨xs, hD, hl, hR, kp, pen2⟩
    exact k D xs H2 (by rw [hl]; omega) hD hR kp (pen2.mono (by rw [Int.toNat_natCast]; exact Nat.le_refl _))
theorem three {α : Type} {xs : List α} (h : xs.length = 3) : ∃ a b c, xs = [a, b, c] := by
  match xs, h with
  | [a, b, c], _ => exact ⟨a, b, c, rfl⟩
/-! ### comparisons of data -/
theorem iteE {A B : Prop} (r : Pol) (h : B) : if (!PyData.eqv (pd r) (pd r)) = true then A else B := by
  rw [SeqAt.eqv_refl _ (SeqAt.canLay_of_shaped (pd_shaped r))]
  exact iteF h
theorem iteEE {A B : Prop} (r : Pol) (n : Int) (h : B) : if (!PyData.eqv (ed r n) (ed r n)) = true then A else B := by
  rw [SeqAt.eqv_refl _ (SeqAt.canLay_of_shaped (ed_shaped r n))]
  exact iteF h
theorem eqv_nil (f : Pol) : PyData.eqv (pd f) (pd []) = decide (f = []) := by
  cases f with
  | nil => rfl
  | cons t r => rfl
theorem Nf.cfs {q : Int} {g : Pol} {F : Int → Int} (h : Nf q g F) (hq : q ≤ 97) : ∀ t ∈ g, -(2 ^ 64) < t.2 ∧ t.2 < 2 ^ 64 := fun t ht => by
  have := h.rng t ht
  omega
theorem len_add {q : Int} {f g r : Pol} (N : Nf q r (fun e => cf f e + cf g e)) : r.length ≤ f.length + g.length := by
  have := N.len (L := f.map (·.1) ++ g.map (·.1)) fun e he => by
    rw [cf_out (fun z => he (List.mem_append_left _ z)), cf_out (fun z => he (List.mem_append_right _ z))]
    rfl
  rw [List.length_append, List.length_map, List.length_map] at this
  exact this
theorem len_sub {q : Int} {f g r : Pol} (N : Nf q r (fun e => cf f e - cf g e)) : r.length ≤ f.length + g.length := by
  have := N.len (L := f.map (·.1) ++ g.map (·.1)) fun e he => by
    rw [cf_out (fun z => he (List.mem_append_left _ z)), cf_out (fun z => he (List.mem_append_right _ z))]
    rfl
  rw [List.length_append, List.length_map, List.length_map] at this
  exact this
theorem len_mul {q : Int} {f g r : Pol} (N : Nf q r (cf (prods f g))) : r.length ≤ f.length * g.length := by
  have := N.len (L := (prods f g).map (·.1)) fun e he => by
    rw [cf_out he]
    rfl
  rw [List.length_map, prods_len] at this
  exact this
theorem len_scale {q k : Int} {f r : Pol} (N : Nf q r (fun e => cf f e * k)) : r.length ≤ f.length := by
  have := N.len (L := f.map (·.1)) fun e he => by
    rw [cf_out he, Int.zero_mul]
    rfl
  rw [List.length_map] at this
  exact this
theorem nf_nil {q : Int} {F : Int → Int} (h : ∀ e, F e % q = 0) : Nf q [] F := ⟨.nil, fun t h => absurd h List.not_mem_nil, fun e => by rw [h]; rfl⟩
theorem nz_check : (primes.all fun q => (List.range q.toNat).all fun a => (List.range q.toNat).all fun b => a == 0 || b == 0 || (a * b % q.toNat != 0)) = true := by decide +kernel
theorem prime_nz {q : Int} (hq : q ∈ primes) {a b : Int} (ha : 0 < a) (ha' : a < q) (hb : 0 < b) (hb' : b < q) : a * b % q ≠ 0 := by
  intro h
  have h1 := List.all_eq_true.mp nz_check q hq
  have h2 := List.all_eq_true.mp h1 a.toNat (List.mem_range.mpr (by omega))
  have h3 := List.all_eq_true.mp h2 b.toNat (List.mem_range.mpr (by omega))
  simp only [Bool.or_eq_true, beq_iff_eq, bne_iff_ne, ne_eq] at h3
  rcases h3 with (h3 | h3) | h3
  · omega
  · omega
  · apply h3
    have e : ((a.toNat * b.toNat % q.toNat : Nat) : Int) = a * b % q := by
      rw [Int.natCast_emod, Int.natCast_mul, Int.toNat_of_nonneg (by omega), Int.toNat_of_nonneg (by omega), Int.toNat_of_nonneg (by omega)]
    rw [h] at e
    omega
theorem nf_one {q e c : Int} (h1 : 0 < c) (h2 : c < q) : Nf q [(e, c)] (cf [(e, c)]) := by
  refine ⟨List.pairwise_singleton _ _, fun t h => ?_, fun x => ?_⟩
  · have : t = (e, c) := by simpa using h
    rw [this]
    exact ⟨h1, h2⟩
  · rw [cf_cons, cf_nil]
    by_cases h : e = x
    · rw [if_pos h, Int.add_zero, Int.emod_eq_of_lt (by omega) h2]
    · rw [if_neg h]
      rfl
theorem len_rounds {q st : Int} {n : Nat} {r : Pol} {L : Nat} (N : Nf q r (cf (rounds n st))) (h : n ≤ L) : r.length ≤ L := by
  have := N.len (L := (rounds n st).map (·.1)) fun e he => by
    rw [cf_out he]
    rfl
  unfold rounds at this
  rw [List.length_map, List.length_map, List.length_range] at this
  omega
theorem len_comp {q m : Int} {f g r : Pol} (N : Nf q r (fun e => cf f e + cf g (e - m))) : r.length ≤ f.length + g.length := by
  have N' : Nf q r (fun e => cf f e + cf (moved m g) e) := N.to fun e => by rw [cf_moved]
  have := len_add N'
  rw [moved_len] at this
  exact this
theorem len_inv {q m : Int} {f r : Pol} (N : Nf q r (fun e => cf f (e + m) * -1)) : r.length ≤ f.length := by
  have N' : Nf q r (fun e => cf (moved (-m) f) e * -1) := N.to fun e => by rw [cf_moved, Int.sub_neg]
  have := len_scale N'
  rw [moved_len] at this
  exact this
theorem teff_sh {K : PySem.W.Frag} {H : Hp} {v : V} {f : Pol} {m n : Int} (e : m = n) (h : TEff K H v f m) : TEff K H v f n := by
  rw [← e]
  exact h
theorem undo_add (a b q : Int) : ((a + b) % q - b) % q = a % q := by
  rw [Int.sub_emod, Int.emod_emod, ← Int.sub_emod]
  congr 1
  omega
theorem geo_close {q st cnt : Int} {gap geo : Pol} (Ng : Nf q gap (fun e => cf [(0, 1)] e - cf [(st, 1)] e)) (No : Nf q geo (cf (rounds cnt.toNat st))) (h0 : 0 ≤ cnt) (e : Int) : cf (prods gap geo) e % q = (cf [(0, 1)] e - cf [(cnt * st, 1)] e) % q := by
  rw [cf_prods, conv_fst (f' := [(0, 1), (st, -1)]) (fun x => ?_) geo e, conv_mod (G' := cf (rounds cnt.toNat st)) (fun x => by rw [No.cof, Int.emod_emod])]
  · show (1 * cf (rounds cnt.toNat st) (e - 0) + (-1 * cf (rounds cnt.toNat st) (e - st) + 0)) % q = ((if 0 = e then 1 else 0) + 0 - ((if cnt * st = e then 1 else 0) + 0)) % q
    have h := rounds_tel st e cnt.toNat
    rw [Int.toNat_of_nonneg h0] at h
    congr 1
    rw [Int.sub_zero]
    omega
  · rw [Ng.cof, Int.emod_emod]
    congr 1
    show (if 0 = x then 1 else 0) + 0 - ((if st = x then 1 else 0) + 0) = (if 0 = x then 1 else 0) + ((if st = x then -1 else 0) + 0)
    by_cases h : st = x
    · rw [if_pos h, if_pos h]
      omega
    · rw [if_neg h, if_neg h]
      omega
theorem prod_ne {q : Int} {f g r : Pol} (hq : q ∈ primes) (nf : Nf q f (cf f)) (ng : Nf q g (cf g)) (nr : Nf q r (cf (prods f g))) (hf : f ≠ []) (hg : g ≠ []) : r ≠ [] := by
  intro hr
  obtain ⟨t, f', rfl⟩ := List.exists_cons_of_ne_nil hf
  obtain ⟨u, g', rfl⟩ := List.exists_cons_of_ne_nil hg
  have h := nr.cof (t.1 + u.1)
  rw [hr, cf_prods, conv_least nf.asc ng.asc] at h
  have a := nf.rng t List.mem_cons_self
  have b := ng.rng u List.mem_cons_self
  exact prime_nz hq a.1 a.2 b.1 b.2 h.symm
def sp_power0 (K : PySem.W.Frag) : Sp := fun vs H Q _ => ∃ (p : Int) (v : V) (f : Pol) (m c : Int), vs = [.int p, v, .int c] ∧ 0 < p ∧ TEff K H v f m ∧ 0 ≤ c ∧ c.natAbs ≤ 1000 ∧ f.length ≤ 1000 ∧ (∀ t ∈ f, -(2 ^ 64) < t.2 ∧ t.2 < 2 ^ 64) ∧ ∀ u H' r, Same H H' → TEff K H' u r (c * m) → Nf p r (fun e => pwF (cf f) m c e) → r.length ≤ f.length * c.natAbs → Q u H'
def sp_power (K : PySem.W.Frag) : Sp := fun vs H Q _ => ∃ (p : Int) (v : V) (f : Pol) (m c : Int), vs = [.int p, v, .int c] ∧ 0 < p ∧ p ≤ 97 ∧ TEff K H v f m ∧ c.natAbs ≤ 1000 ∧ f.length ≤ 1000 ∧ (∀ t ∈ f, -(2 ^ 64) < t.2 ∧ t.2 < 2 ^ 64) ∧ ∀ u H' r, Same H H' → TEff K H' u r (c * m) → Nf p r (fun e => pwF (cf f) m c e) → r.length ≤ f.length * c.natAbs → Q u H'
/-- order, of an effect that does not move -/
def sp_order (K : PySem.W.Frag) : Sp := fun vs H Q _ => ∃ (p : Int) (v : V) (f : Pol), vs = [.int p, v] ∧ TEff K H v f 0 ∧ Q (.int (if f = [] then 1 else p)) H
theorem Nf.subP {p : Int} {g : Pol} {F : Int → Int} {R : Int → Prop} (a : Nf p g F) (h : ∀ e, ¬ R e → F e % p = 0) : ∀ t ∈ g, R t.1 := fun t ht => by
  refine Classical.byContradiction fun n => ?_
  have e1 := a.cof t.1
  rw [cf_mem a.asc t ht, h _ n] at e1
  have := (a.rng t ht).1
  omega
theorem pow_sm {q m c : Int} {f r : Pol} (N : Nf q r (fun e => pwF (cf f) m c e)) (hq : q ≤ 97) (l : r.length ≤ 50000) (hf : ∀ t ∈ f, t.1.natAbs < 10 ^ 90) (hm : m.natAbs < 10 ^ 90) (hc : c.natAbs ≤ 1000) : Sm r := by
  refine ⟨l, fun t ht => ⟨N.subP (R := fun e => e.natAbs < 10 ^ 100) (fun e he => ?_) t ht, ?_⟩⟩
  · rw [pw_far c fun k hk => ?_]
    · rfl
    · refine cf_none f _ fun u hu z => he ?_
      have h1 := hf u hu
      have h2 : (k * m).natAbs ≤ 1000 * 10 ^ 90 := by
        rw [Int.natAbs_mul]
        exact Nat.mul_le_mul (Nat.le_trans hk hc) (Nat.le_of_lt hm)
      have h3 : 1000 * 10 ^ 90 + 10 ^ 90 < 10 ^ 100 := by decide +kernel
      have h4 : e = u.1 + k * m := by omega
      rw [h4]
      generalize k * m = km at h2
      omega
  · have := N.rng t ht
    exact Nat.lt_of_le_of_lt (show t.2.natAbs ≤ 97 by omega) (by decide +kernel)
end DR
namespace DR
open PySem PySem.Spec PyProof.Rows L2
/-! ### any data, and what is told of it -/
def tyName : PyData → String
  | .none => "NoneType"
  | .bool _ => "bool"
  | .int _ => "int"
  | .str _ => "str"
  | .list _ => "list"
  | .tuple _ => "tuple"
  | .dict _ => "dict"
def isTup : PyData → Bool
  | .tuple _ => true
  | _ => false
def isInt' : PyData → Bool
  | .int _ => true
  | .bool _ => true
  | _ => false
def isBool : PyData → Bool
  | .bool _ => true
  | _ => false
def isWhole : PyData → Bool
  | .int _ => true
  | _ => false
def isTerm (p : Int) : PyData → Bool
  | .tuple [.int _, .int c] => decide (1 ≤ c) && decide (c < p)
  | _ => false
def expo : PyData → Int
  | .tuple (.int e :: _) => e
  | _ => 0
def ascD : List PyData → Bool
  | x :: y :: r => decide (expo x < expo y) && ascD (y :: r)
  | _ => true
def isPoly (p : Int) : PyData → Bool
  | .tuple ds => ds.all (isTerm p) && ascD ds
  | _ => false
def isEff (p : Int) : PyData → Bool
  | .tuple [a, b] => isPoly p a && isWhole b
  | _ => false
/-- data, or an empty dict -/
def DpX (K : PySem.W.Frag) (H : Hp) (v : V) (d : PyData) : Prop := Dp K H v d ∨ ∃ a, v = .ref a ∧ H a = some (.dK []) ∧ d = .dict []
section
variable {K : PySem.W.Frag} {H H' : Hp} {v : V} {d : PyData}
theorem Dp.ty (h : Dp K H v d) : TyX K H v (.type (tyName d)) := by
  cases h with
  | non => exact .base .non
  | bl b => exact .base (.bl b)
  | int i => exact .base (.int i)
  | str x => exact .base (.str x)
  | lst hs _ =>
    rcases hs with (h | ⟨o, h⟩) | ⟨o, its, n, h, c, _⟩
    · exact .base (.lst h)
    · exact .base (.frz h)
    · exact .kList h c
  | tup hs _ =>
    rcases hs with (h | ⟨o, h⟩) | ⟨o, its, n, h, c, _⟩
    · exact .base (.tup h)
    · exact .fTuple h
    · exact .kTuple h c
theorem DpX.ty (h : DpX K H v d) : TyX K H v (.type (tyName d)) := by
  rcases h with h | ⟨a, rfl, h, rfl⟩
  · exact Dp.ty h
  · exact .base (.dK h)
theorem kit_tuple (d : PyData) : PySem.W.kitOne K (.type (tyName d)) (.type "tuple") = some (isTup d) := by
  cases d with
  | none => exact kit_ty (show kitB "NoneType" "tuple" = some false by decide +kernel)
  | bool b => exact kit_ty (show kitB "bool" "tuple" = some false by decide +kernel)
  | int i => exact kit_ty (show kitB "int" "tuple" = some false by decide +kernel)
  | str x => exact kit_ty (show kitB "str" "tuple" = some false by decide +kernel)
  | list xs => exact kit_ty (show kitB "list" "tuple" = some false by decide +kernel)
  | tuple xs => exact kit_ty (show kitB "tuple" "tuple" = some true by decide +kernel)
  | dict kvs => exact kit_ty (show kitB "dict" "tuple" = some false by decide +kernel)
theorem kit_int (d : PyData) : PySem.W.kitOne K (.type (tyName d)) (.type "int") = some (isInt' d) := by
  cases d with
  | none => exact kit_ty (show kitB "NoneType" "int" = some false by decide +kernel)
  | bool b => exact kit_ty (show kitB "bool" "int" = some true by decide +kernel)
  | int i => exact kit_ty (show kitB "int" "int" = some true by decide +kernel)
  | str x => exact kit_ty (show kitB "str" "int" = some false by decide +kernel)
  | list xs => exact kit_ty (show kitB "list" "int" = some false by decide +kernel)
  | tuple xs => exact kit_ty (show kitB "tuple" "int" = some false by decide +kernel)
  | dict kvs => exact kit_ty (show kitB "dict" "int" = some false by decide +kernel)
theorem kit_bool (d : PyData) : PySem.W.kitOne K (.type (tyName d)) (.type "bool") = some (isBool d) := by
  cases d with
  | none => exact kit_ty (show kitB "NoneType" "bool" = some false by decide +kernel)
  | bool b => exact kit_ty (show kitB "bool" "bool" = some true by decide +kernel)
  | int i => exact kit_ty (show kitB "int" "bool" = some false by decide +kernel)
  | str x => exact kit_ty (show kitB "str" "bool" = some false by decide +kernel)
  | list xs => exact kit_ty (show kitB "list" "bool" = some false by decide +kernel)
  | tuple xs => exact kit_ty (show kitB "tuple" "bool" = some false by decide +kernel)
  | dict kvs => exact kit_ty (show kitB "dict" "bool" = some false by decide +kernel)
mutual
theorem Dp.same (e : Same H H') : ∀ {v : V} {d : PyData}, Dp K H v d → Dp K H' v d
  | _, _, .non => .non
  | _, _, .bl b => .bl b
  | _, _, .int i => .int i
  | _, _, .str x => .str x
  | _, _, .lst hs ha => .lst (e.seq hs) (DpAll.same e ha)
  | _, _, .tup hs ha => .tup (same_t e hs) (DpAll.same e ha)
theorem DpAll.same (e : Same H H') : ∀ {vs : List V} {ds : List PyData}, DpAll K H vs ds → DpAll K H' vs ds
  | _, _, .nil => .nil
  | _, _, .cons h t => .cons (Dp.same e h) (DpAll.same e t)
end
theorem DpX.same (e : Same H H') (h : DpX K H v d) : DpX K H' v d := h.elim (fun z => .inl (Dp.same e z)) fun ⟨a, e1, e2, e3⟩ => .inr ⟨a, e1, e _ _ e2, e3⟩
theorem DpAll.len : ∀ {vs : List V} {ds : List PyData}, DpAll K H vs ds → vs.length = ds.length
  | _, _, .nil => rfl
  | _, _, .cons _ t => by rw [List.length_cons, List.length_cons, DpAll.len t]
theorem DpAll.get : ∀ {vs : List V} {ds : List PyData} {i : Nat} {x : V}, DpAll K H vs ds → vs[i]? = some x → ∃ d, ds[i]? = some d ∧ Dp K H x d
  | _, _, _, _, .nil, e => by simp at e
  | _, _, 0, _, .cons h _, e => by
    simp at e
    subst e
    exact ⟨_, rfl, h⟩
  | _, _, i + 1, x, .cons _ t, e => by
    obtain ⟨d, h1, h2⟩ := DpAll.get (i := i) (x := x) t (by simpa using e)
    exact ⟨d, by simpa using h1, h2⟩
/-- a tuple's items -/
theorem Dp.tup_inv {ds : List PyData} (h : Dp K H v (.tuple ds)) : ∃ a xs, v = .ref a ∧ SqT K H a xs ∧ DpAll K H xs ds := by
  cases h with
  | tup hs ha => exact ⟨_, _, rfl, hs, ha⟩
theorem Dp.pair_inv {e c : Int} (h : Dp K H v (.tuple [.int e, .int c])) : ∃ a, v = .ref a ∧ SqT K H a [.int e, .int c] := by
  cases h with
  | tup hs ha =>
    cases ha with
    | cons h1 t =>
      cases t with
      | cons h2 t2 =>
        cases t2
        cases h1
        cases h2
        exact ⟨_, rfl, hs⟩
theorem Dp.int_inv {i : Int} (h : Dp K H v (.int i)) : v = .int i := by
  cases h
  rfl
end
theorem isTup_inv {d : PyData} (h : isTup d = true) : ∃ ds, d = .tuple ds := by
  cases d <;> first | exact ⟨_, rfl⟩ | cases h
theorem isWhole_inv {d : PyData} (h : isWhole d = true) : ∃ i, d = .int i := by
  cases d <;> first | exact ⟨_, rfl⟩ | cases h
theorem isTerm_inv {p : Int} {d : PyData} (h : isTerm p d = true) : ∃ e c, d = .tuple [.int e, .int c] ∧ 1 ≤ c ∧ c < p := by
  unfold isTerm at h
  split at h
  · rename_i e c
    rw [Bool.and_eq_true, decide_eq_true_eq, decide_eq_true_eq] at h
    exact ⟨e, c, rfl, h.1, h.2⟩
  · cases h
def sp_is_whole (K : PySem.W.Frag) : Sp := fun vs H Q _ => ∃ (v : V) (d : PyData), vs = [v] ∧ DpX K H v d ∧ Q (.bl (isWhole d)) H
def sp_is_term (K : PySem.W.Frag) : Sp := fun vs H Q _ => ∃ (p : Int) (v : V) (d : PyData), vs = [.int p, v] ∧ Dp K H v d ∧ Q (.bl (isTerm p d)) H
def sp_is_polynomial (K : PySem.W.Frag) : Sp := fun vs H Q _ => ∃ (p : Int) (v : V) (d : PyData), vs = [.int p, v] ∧ DpX K H v d ∧ (∀ ds, d = .tuple ds → ds.length ≤ 1000000) ∧ ∀ H', Same H H' → Q (.bl (isPoly p d)) H'
def sp_is_effect (K : PySem.W.Frag) : Sp := fun vs H Q _ => ∃ (p : Int) (v : V) (d : PyData), vs = [.int p, v] ∧ DpX K H v d ∧ (∀ ds es, d = .tuple ds → PyData.tuple es ∈ ds → es.length ≤ 1000000) ∧ ∀ H', Same H H' → Q (.bl (isEff p d)) H'
/-- [f(x) for x in a tuple], f a truth value -/
theorem lcBool {K : PySem.W.Frag} {a : Addr} {xs : List V} {ds : List PyData} {σ : L2.St} {H : Hp} {vs : List Nat} {n i : Nat} {te : TE} {Q : VK} (f : PyData → Bool) (hv : σ[n]? = some (some (.ref a))) (hs : SqT K H a xs) (hP : DpAll K H xs ds) (hl : ds.length ≤ 1000000)
    (hw : ∀ x, wipe ((wipe σ vs).set i (some x)) vs = wipe σ vs)
    (he : ∀ x d H2, Same H H2 → Dp K H2 x d → ∀ R : VK, R (.bl (f d)) H2 → te ((wipe σ vs).set i (some x)) H2 R)
    (k : ∀ D H2, Same H H2 → H2 D = some (.lst ((ds.map f).map V.bl)) → Q (.ref D) H2) : tLc (iTup K (tVar n)) (gName i) tYes te vs σ H Q := by
  refine ⟨_, hv, a, rfl, ⟨_, hs⟩, fun D nD => lc_tup (K := K) (a := a) (xs := xs) (fun m H2 => Same H H2 ∧ H2 D = some (.lst (((ds.take m).map f).map V.bl))) ⟨same_new nD, upd_same⟩ (fun m H2 _ g => same_t g.1 hs) ?_ ?_⟩
  · rintro m x H2 hm ⟨s2, h2⟩
    obtain ⟨d, hd, hx⟩ := DpAll.get hP hm
    refine ⟨hw _, ?_⟩
    dsimp only [tYes]
    rw [if_pos rfl]
    have hm2 : m < ds.length := (List.getElem?_eq_some_iff.mp hd).1
    refine he x d H2 s2 (Dp.same s2 hx) _ ⟨_, h2, sl_lt (by rw [List.length_map, List.length_map, List.length_take]; omega), same_mut s2 nD, ?_⟩
    rw [upd_same, take_snoc hd, List.map_append, List.map_append]
    rfl
  · rintro H2 ⟨s2, h2⟩
    rw [DpAll.len hP, List.take_length] at h2
    exact k D H2 s2 h2
theorem cut1 (xs : List V) : cutV xs (some 1) none = xs.drop 1 := by
  unfold cutV
  rw [show HT.sIx xs.length 0 (some 1) = min 1 xs.length from HT.sIx_nat xs.length 0 1, HT.sIx_none]
  cases xs with
  | nil => rfl
  | cons x r =>
    rw [show min 1 (x :: r).length = 1 by
      rw [List.length_cons]
      omega]
    show (List.take ((x :: r).length - 1) r) = r
    rw [List.length_cons, Nat.add_sub_cancel]
    exact List.take_length
/-- the pairs of neighbours, compared -/
def ups : List PyData → List Bool
  | x :: y :: r => decide (expo x < expo y) :: ups (y :: r)
  | _ => []
theorem ups_len : ∀ ds : List PyData, (ups ds).length = ds.length - 1
  | [] => rfl
  | [_] => rfl
  | x :: y :: r => by
    show (ups (y :: r)).length + 1 = _
    rw [ups_len (y :: r)]
    show r.length + 1 - 1 + 1 = r.length + 1 + 1 - 1
    omega
theorem ups_get : ∀ (ds : List PyData) (i : Nat) (x y : PyData), ds[i]? = some x → ds[i + 1]? = some y → (ups ds)[i]? = some (decide (expo x < expo y))
  | [], _, _, _, h, _ => by simp at h
  | [_], 0, _, _, _, h => by simp at h
  | [_], i + 1, _, _, h, _ => by simp at h
  | a :: b :: r, 0, x, y, h, h2 => by
    have e1 : a = x := Option.some.inj h
    have e2 : b = y := Option.some.inj h2
    rw [← e1, ← e2]
    rfl
  | a :: b :: r, i + 1, x, y, h, h2 => ups_get (b :: r) i x y h h2
theorem ups_all : ∀ ds : List PyData, (ups ds).all id = ascD ds
  | [] => rfl
  | [_] => rfl
  | x :: y :: r => by
    show (decide (expo x < expo y) && (ups (y :: r)).all id) = _
    rw [ups_all (y :: r)]
    rfl
/-! ### what canonical polynomials and effects are told to be -/
theorem term_pr {p : Int} {t : Int × Int} (h : 0 < t.2 ∧ t.2 < p) : isTerm p (pr t) = true := by
  show (decide (1 ≤ t.2) && decide (t.2 < p)) = true
  rw [decide_eq_true (by omega), decide_eq_true h.2]
  rfl
theorem asc_prs : ∀ {g : Pol}, (g.Pairwise fun x y => x.1 < y.1) → ascD (g.map pr) = true
  | [], _ => rfl
  | [_], _ => rfl
  | t :: u :: r, h => by
    have a := List.pairwise_cons.mp h
    show (decide (t.1 < u.1) && ascD ((u :: r).map pr)) = true
    rw [decide_eq_true (a.1 u List.mem_cons_self), asc_prs a.2]
    rfl
theorem nf_poly {p : Int} {g : Pol} {F : Int → Int} (h : Nf p g F) : isPoly p (pd g) = true := by
  show ((g.map pr).all (isTerm p) && ascD (g.map pr)) = true
  rw [asc_prs h.asc, Bool.and_true, List.all_eq_true]
  intro x hx
  obtain ⟨t, ht, rfl⟩ := List.mem_map.mp hx
  exact term_pr (h.rng t ht)
theorem nf_eff {p : Int} {g : Pol} {F : Int → Int} (h : Nf p g F) (n : Int) : isEff p (ed g n) = true := by
  show (isPoly p (pd g) && true) = true
  rw [nf_poly h]
  rfl
/-- [t[0] < f[0] for t, f in zip(x, x[1:])] -/
theorem lcZip {K : PySem.W.Frag} {a b : Addr} {xs : List V} {ds : List PyData} {σ : L2.St} {H : Hp} {vs : List Nat} {i j : Nat} {te : TE} {Q : VK} (hs : SqT K H a xs) (hb : SqT K H b (xs.drop 1)) (hP : DpAll K H xs ds) (hl : ds.length ≤ 1000000)
    (hw : ∀ x y, wipe (((wipe σ vs).set i (some x)).set j (some y)) vs = wipe σ vs)
    (he : ∀ x y d d' H2, Same H H2 → d ∈ ds → d' ∈ ds → Dp K H2 x d → Dp K H2 y d' → ∀ R : VK, R (.bl (decide (expo d < expo d'))) H2 → te (((wipe σ vs).set i (some x)).set j (some y)) H2 R)
    (k : ∀ D H2, Same H H2 → H2 D = some (.lst ((ups ds).map V.bl)) → Q (.ref D) H2) : tLc (fun _ H R => R (RZ.ItzT K a b) H) (gTup K 2 (gCons (gName i) (gCons (gName j) gNil))) tYes te vs σ H Q := by
  intro D nD
  have hlen : xs.length = ds.length := DpAll.len hP
  refine ⟨fun m r H2 => m + r = ds.length - 1 ∧ Same H H2 ∧ H2 D = some (.lst (((ups ds).take m).map V.bl)), ⟨ds.length - 1, by omega, same_new nD, upd_same⟩, fun m r H2 hW => ?_⟩
  obtain ⟨em, s2, h2⟩ := hW
  have hA : SqT K H2 a xs := same_t s2 hs
  have hB : SqT K H2 b (xs.drop 1) := same_t s2 hb
  by_cases hm : m < ds.length - 1
  · have m1 : m < xs.length := by omega
    have m2 : m + 1 < xs.length := by omega
    have g1 : xs[m]? = some xs[m] := List.getElem?_eq_getElem m1
    have g2 : (xs.drop 1)[m]? = some xs[m + 1] := by
      rw [List.getElem?_drop, Nat.add_comm 1 m, List.getElem?_eq_getElem m2]
    obtain ⟨d, hd, hx⟩ := DpAll.get hP g1
    obtain ⟨d', hd', hy⟩ := DpAll.get hP (List.getElem?_eq_getElem m2)
    have gu := ups_get ds m d d' hd hd'
    refine .inr ⟨⟨xs, xs.drop 1, _, _, hA, hB, g1, g2⟩, fun H' => Same H H' ∧ H' D = some (.lst (((ups ds).take (m + 1)).map V.bl)), fun H' hN => ⟨r - 1, by omega, by omega, hN.1, hN.2⟩, fun v H' hy' => ?_⟩
    obtain ⟨T, x1, x2, rfl, nT, rfl, f1, f2⟩ := hy'
    have ex1 : x1 = xs[m] := Option.some.inj ((f1 _ hA).symm.trans g1)
    have ex2 : x2 = xs[m + 1] := Option.some.inj ((f2 _ hB).symm.trans g2)
    subst ex1
    subst ex2
    have sT : Same H2 (upd H2 T (.tup [xs[m], xs[m + 1]])) := same_new nT
    have s3 := s2.trans sT
    refine ⟨T, _, rfl, SqT.of upd_same, rfl, _, _, rfl, _, _, rfl, rfl, hw _ _, ?_⟩
    dsimp only [tYes]
    rw [if_pos rfl]
    refine he _ _ d d' _ s3 (List.mem_of_getElem? hd) (List.mem_of_getElem? hd') (Dp.same s3 hx) (Dp.same s3 hy) _ ⟨_, sT _ _ h2, sl_lt ?_, same_mut s3 nD, ?_⟩
    · rw [List.length_map, List.length_take]
      omega
    · rw [upd_same, take_snoc gu, List.map_append]
      rfl
  · refine .inl ⟨⟨xs, xs.drop 1, hA, hB, .inr ?_⟩, ?_⟩
    · rw [List.length_drop]
      omega
    · have e : m = ds.length - 1 := by omega
      rw [e, ← ups_len, List.take_length] at h2
      exact k D H2 s2 h2
theorem two {α : Type} {xs : List α} (h : xs.length = 2) : ∃ a b, xs = [a, b] := by
  match xs, h with
  | [a, b], _ => exact ⟨a, b, rfl⟩
end DR
namespace DR
open PySem PySem.Spec PyProof.Rows L2
/-! ### repr of any data, and of an empty dict -/
section
variable {X : Cx}
theorem call_reprX (hg : X.A.guards = some []) (hu : X.A.units + 100 < cLine) : CallR X (.builtin "repr") (fun xs H Q => ∃ (x : V) (d : PyData), xs = [x] ∧ DpX X.K H x d ∧ d.showable = true ∧ (d.hasDict = true → d = .dict []) ∧ d.depth ≤ 64 ∧ d.shown.length ≤ sizeLine ∧ Q (.str d.shown) H) := by
  intro pins s σ H xs us Q I r h
  obtain ⟨x, d, rfl, hd, hs, hn, hz, hl, q⟩ := h
  obtain ⟨u, rfl, rx⟩ := vals1 r
  rcases hd with hd | ⟨a, rfl, ha, rfl⟩
  · cases hd with
    | non =>
      obtain rfl : u = Value.none := rx
      exact PySem.P.repr_of_none ⟨.str _, H, I.tok _, ⟨_, rfl⟩, q⟩
    | bl b =>
      obtain rfl : u = Value.bool b := rx
      refine PySem.P.repr_of_bool ⟨.str _, H, I.tok _, ⟨_, rfl⟩, ?_⟩
      cases b <;> exact q
    | int i =>
      obtain ⟨t, rfl⟩ := rx
      exact PySem.P.repr_of_int (of_decide_eq_true hs) ⟨.str _, H, I.tok _, ⟨_, rfl⟩, q⟩
    | str y =>
      obtain ⟨t, rfl⟩ := rx
      exact PySem.P.repr_of_str ⟨.str _, H, I.tok _, ⟨_, rfl⟩, q⟩ hl
    | @lst a xs ds h1 h2 =>
      obtain rfl : u = Value.ref a := rx
      obtain ⟨as, rd⟩ := Dp.reads I _ _ _ (Dp.lst h1 h2) rfl
      refine repr_of_reads' rd hs (fun z => absurd (hn z) (by intro e; cases e)) hg (by omega) (fun _ _ e => e) (fun h' t tk hk => ?_) hl
      exact ⟨.str _, H, I.kept hk, ⟨t, rfl⟩, q⟩
    | @tup a xs ds h1 h2 =>
      obtain rfl : u = Value.ref a := rx
      obtain ⟨as, rd⟩ := Dp.reads I _ _ _ (Dp.tup h1 h2) rfl
      refine repr_of_reads' rd hs (fun z => absurd (hn z) (by intro e; cases e)) hg (by omega) (fun _ _ e => e) (fun h' t tk hk => ?_) hl
      exact ⟨.str _, H, I.kept hk, ⟨t, rfl⟩, q⟩
  · obtain rfl : u = Value.ref a := rx
    obtain ⟨z, lo, vs, rel, o, es, ep, e1, ex, e2, _, e4, _⟩ := dk_rd I.hok (Rd.of ha)
    cases rel
    have e5 : es.toList = [] := by
      cases h : es.toList with
      | nil => rfl
      | cons y ys =>
        rw [h] at e4
        cases e4
    have rd : Reads s.heap (.ref a) (.dict []) (a :: [] ++ []) := .dict (kvs := []) e1 ex.1 e2 (by rw [e5]; exact .nil) (by rw [e5]; exact .nil)
    refine repr_of_reads' rd hs (fun _ hm => ?_) hg (by omega) (fun _ _ e => e) (fun h' t tk hk => ?_) hl
    · have e6 : sysModules = a := by simpa using hm
      rw [e6] at lo
      simp at lo
    · exact ⟨.str _, H, I.kept hk, ⟨t, rfl⟩, q⟩
end
end DR
/-! ### t[::-1] of a tuple -/
namespace DRv
open PySem PySem.Spec PyProof.Rows L2 HT
section
variable {prog : Program} {w : World} {A : Around} {E : Value → Shared → Prop} {s : Shared}
theorem fm_congr {α β : Type} {f g : α → Option β} : ∀ {l : List α}, (∀ x ∈ l, f x = g x) → l.filterMap f = l.filterMap g
  | [], _ => rfl
  | x :: l, h => by
    rw [List.filterMap_cons, List.filterMap_cons, h x List.mem_cons_self, fm_congr fun y hy => h y (List.mem_cons_of_mem _ hy)]
theorem applied_back {sl : Addr} {vl vu vs : Value} {n : Nat} {Q : Int × Int × Nat → Shared → Prop} (hs : s.heap.IsSliceOf sl vl vu vs) (pl : IsPart vl none) (pu : IsPart vu none) (ps : IsPart vs (some (-1)))
    (h : Q ((n : Int) - 1, -1, n) s) : wpAny (model prog w) A (Builtin.Slice.sliceApplied (.ref sl) (pure (n : Int))) Q E s := by
  obtain ⟨os, hos, _, hds⟩ := hs
  unfold Builtin.Slice.sliceApplied
  unfold Builtin.Slice.sliceFields
  refine wpAny_bind (wpAny_bind (wpAny_field hos hds (x := vl) rfl (wpAny_bind (wpAny_field hos hds (x := vu) rfl (wpAny_bind (wpAny_field hos hds (x := vs) rfl (wpAny_pure ?_)))))))
  refine wpAny_bind (slicePart_ ps ?_)
  show wpAny _ _ (if ((-1 : Int) == 0) = true then _ else _) _ _ s
  rw [if_neg (by decide)]
  have both := fun R h => slicePart_ (prog := prog) (w := w) (A := A) (E := E) (s := s) (Q := R) pu h
  refine wpAny_bind (slicePart_ pl (wpAny_bind (both _ (wpAny_bind (wpAny_pure ?_)))))
  show wpAny _ _ (match Builtin.Slice.sliceAdjust none none (-1) (n : Int) with | (lo, hi) => pure (lo, (-1 : Int), Builtin.Slice.slicePlaces lo hi (-1))) _ _ s
  have e1 : Builtin.Slice.sliceAdjust none none (-1) (n : Int) = ((n : Int) - 1, -1) := by simp [Builtin.Slice.sliceAdjust]
  have e2 : Builtin.Slice.slicePlaces ((n : Int) - 1) (-1) (-1) = n := by
    simp [Builtin.Slice.slicePlaces]
    try omega
  rw [e1]
  show wpAny _ _ (pure ((n : Int) - 1, (-1 : Int), Builtin.Slice.slicePlaces ((n : Int) - 1) (-1) (-1))) _ _ s
  rw [e2]
  exact wpAny_pure h
theorem pick_back (xs : Array Value) : ((List.range xs.size).filterMap fun (m : Nat) => xs[(((xs.size : Int) - 1) + (m : Int) * -1).toNat]?).toArray = xs.toList.reverse.toArray := by
  congr 1
  have h : ∀ l : List Value, ((List.range l.length).filterMap fun (m : Nat) => l[(((l.length : Int) - 1) + (m : Int) * -1).toNat]?) = l.reverse := by
    intro l
    have e : (List.range l.length).filterMap (fun (m : Nat) => l[(((l.length : Int) - 1) + (m : Int) * -1).toNat]?) = (List.range l.length).filterMap (fun (m : Nat) => l.reverse[m]?) := by
      refine fm_congr fun m hm => ?_
      have hm := List.mem_range.mp hm
      rw [List.getElem?_reverse hm]
      congr 1
      omega
    rw [e]
    have r : ∀ k : List Value, (List.range k.length).filterMap (fun (m : Nat) => k[m]?) = k := by
      intro k
      induction k with
      | nil => rfl
      | cons a k ih =>
        rw [List.length_cons, List.range_succ_eq_map, List.filterMap_cons]
        simp only [List.getElem?_cons_zero, List.filterMap_map]
        congr 1
    have := r l.reverse
    rw [List.length_reverse] at this
    exact this
  have := h xs.toList
  rw [Array.length_toList] at this
  rw [← this]
  refine fm_congr fun m _ => ?_
  rw [Array.getElem?_toList]
theorem tuple_back {t sl : Addr} {items : Array Value} {vl vu vs : Value} {Q : Value → Shared → Prop} (ht : IsTup s.heap t items) (hs : s.heap.IsSliceOf sl vl vu vs) (pl : IsPart vl none) (pu : IsPart vu none) (ps : IsPart vs (some (-1)))
    (h : Q (.ref s.heap.objs.size) { s with heap := s.heap.push { cls := .type "tuple", data := .seq items.toList.reverse.toArray } }) (hsz : items.size ≤ sizeLine) : wpAny (model prog w) A (getItem (.ref t) (.ref sl)) Q E s := by
  have fits : sizeOk (.seq items.toList.reverse.toArray) := by
    show items.toList.reverse.toArray.size ≤ sizeLine
    rw [List.size_toArray, List.length_reverse, Array.length_toList]
    exact hsz
  have ty : s.TypeIs (.ref sl) "slice" := hs.elim fun os z => ⟨os, z.1, z.2.1⟩
  unfold getItem
  try with_reducible refine wpAny_holding ?_
  first | refine wpAny_bind (wpAny_pure ?_) | skip
  refine wpAny_bind (wpAny_sequenceKey ht.typeIs (by decide) ?_)
  refine wpAny_bind (wpAny_callSpecial?_slot (name := Str.ofString "__getitem__") ht.typeIs slot_tuple_getitem (wpAny_call_entry slot_tuple_getitem ht.typeIs entry_tuple_getitem ?_ (args_tuple_getitem _ _)))
  show wpAny _ _ (Builtin.Tuple.tupleItemsOf (.ref t) >>= _) _ _ s
  refine wpAny_bind (tupleItemsOf_ ht (wpAny_bind (wpAny_typeOf ty ?_)))
  rw [if_pos (by decide)]
  refine wpAny_bind (applied_back hs pl pu ps ?_)
  have no : ¬ ((((items.size : Int) - 1) == 0 && (-1 : Int) == 1 && items.size == items.size) = true) := by
    intro q
    have two := (Bool.and_eq_true _ _ ▸ (Bool.and_eq_true _ _ ▸ q).1).2
    exact absurd two (by decide)
  show wpAny _ _ (if (((items.size : Int) - 1) == 0 && (-1 : Int) == 1 && items.size == items.size) = true then _ else _) _ _ s
  rw [if_neg no, pick_back]
  first
    | exact wpAny_bind (m := Builtin.Tuple.tupleExact _) (wpAny_newObj_type (wpAny_pure ⟨_, rfl, wpAny_pure h⟩) fits)
    | exact wpAny_bind (m := Builtin.Tuple.tupleExact _) (wpAny_newObj_type (wpAny_bind (wpAny_pure (wpAny_pure ⟨_, rfl, wpAny_pure h⟩))) fits)
    | exact wpAny_bind (wpAny_bind (m := Builtin.Tuple.tupleExact _) (wpAny_newObj_type (wpAny_pure (wpAny_pure ⟨_, rfl, wpAny_pure h⟩)) fits))
    | exact wpAny_bind (wpAny_bind (m := Builtin.Tuple.tupleExact _) (wpAny_newObj_type (wpAny_pure ⟨_, rfl, wpAny_pure h⟩) fits))
end
section
variable {X : Cx}
def tRevT (K : PySem.W.Frag) (te : TE) : TE := fun σ H Q => te σ H fun x H1 => ∃ a xs, x = .ref a ∧ SqT K H1 a xs ∧ ∀ p, H1 p = none → Q (.ref p) (upd H1 p (.tup xs.reverse))
theorem pe_revT {e : Expr} {te : TE} {k : Nat} {p1 p2 p3 pos : Pos} (he : PE X e te) : PE X (.Subscript e (.Slice none none (some (.UnaryOp .USub (.Constant (.int 1) k p1) p2)) p3) pos) (tRevT X.K te) := by
  refine ⟨fun pins s σ H Q I h => Subscript_ (thn (he.run pins s σ H _ I h) fun v s1 ⟨x, H1, I1, r1, q1⟩ => ?_)⟩
  obtain ⟨a, xs, rfl, hx, q⟩ := q1
  cases r1
  have step : PO X (some (.UnaryOp .USub (.Constant (.int 1) k p1) p2)) (tPart (tUn (rU fun i => .int (-i)) (tC (.int 1)))) := po_some (pe_un un_neg pe_int)
  refine wpAny_Slice (thn (po_none.run pins s1 σ H1 (fun o G => o = none ∧ G = H1) I1 ⟨rfl, rfl⟩) fun vl s2 ⟨l, G2, I2, pl, el, eG⟩ => ?_)
  subst el eG
  refine thn (po_none.run pins s2 σ G2 (fun o G => o = none ∧ G = G2) I2 ⟨rfl, rfl⟩) fun vu s3 ⟨u, G3, I3, pu, eu, eG⟩ => ?_
  subst eu eG
  refine thn (step.run pins s3 σ G3 (fun o G => o = some (-1) ∧ G = G3) I3 ⟨1, rfl, -1, rfl, rfl, rfl⟩) fun vs s4 ⟨o, G4, I4, ps, eo, eG⟩ => ?_
  subst eo eG
  have I5 : Inv X pins σ G4 { s4 with heap := s4.heap.push { cls := .type "slice", data := .fields #[vl, vu, vs] } } := I4.kept (t' := s4.toks) fun b ob q => Heap.get?_push_of_some _ q
  obtain ⟨its, r, ht, hz⟩ := I5.tuple hx
  have len := r.length
  show wpAny (model X.prog X.w) X.A (subscriptTail e (.Slice none none (some (.UnaryOp .USub (.Constant (.int 1) k p1) p2)) p3) (.ref a) (.ref s4.heap.objs.size)) (EP X pins σ Q) X.xe { s4 with heap := s4.heap.push { cls := .type "slice", data := .fields #[vl, vu, vs] } }
  refine tail_any (ops := [.ref a, .ref s4.heap.objs.size]) ht.typeIs slot_tuple_getitem.lookup ?_ (by with_unfolding_all rfl)
  refine tuple_back ht (Heap.IsSliceOf.new _ vl vu vs) pl pu ps ?_ (by rw [List.size_toArray]; omega)
  refine ⟨.ref _, _, I5.laid (t' := s4.toks) (o := .tup xs.reverse) (fun b ob q => Heap.get?_push_of_some _ q) (Nat.le_refl _) ?_, rfl, q _ (I5.hok.fresh (Nat.le_refl _))⟩
  exact ⟨by rw [List.length_reverse]; exact hz, its.reverse, r.reverse, _, Heap.get?_push_size _ rfl, rfl, 0, rfl⟩
end
end DRv
namespace DR
open PySem PySem.Spec PyProof.Rows L2
/-! ### values that may be shown and told of -/
def tupLen : PyData → Nat
  | .tuple es => es.length
  | _ => 0
/-- data that is shown in n signs at most, k deep at most -/
structure Fits (n k : Nat) (d : PyData) : Prop where
  sh : d.showable = true
  nd : d.hasDict = false
  dp : d.depth ≤ k
  ln : d.shown.length ≤ n
theorem Fits.up {n k n' k' : Nat} {d : PyData} (h : Fits n k d) (a : n ≤ n') (b : k ≤ k') : Fits n' k' d := ⟨h.sh, h.nd, Nat.le_trans h.dp b, Nat.le_trans h.ln a⟩
theorem fits_int {i : Int} (h : i.natAbs < 10 ^ 100) : Fits 101 0 (.int i) := ⟨(int_shows h).1, rfl, Nat.le_refl _, (int_shows h).2⟩
theorem fits_pd {g : Pol} (h : Sm g) : Fits (211 * g.length + 3) 2 (pd g) := ⟨(pd_shows h).1, (pd_shows h).2.1, (pd_shows h).2.2.1, (pd_shows h).2.2.2⟩
theorem fits_list {g : Pol} (h : Sm g) : Fits (211 * g.length + 3) 2 (.list (g.map pr)) := by
  obtain ⟨a1, a2, a3, a4, a5⟩ := prs_shows g h.abs
  refine ⟨a1, a2, ?_, ?_⟩
  · show PyData.depthAll (g.map pr) + 1 ≤ 2
    omega
  · show (listText (PyData.shownAll (g.map pr))).length ≤ _
    have := listText_len_le (PyData.shownAll (g.map pr))
    rw [a5] at this
    omega
theorem fits_1 {n k : Nat} {d : PyData} (h : Fits n k d) : Fits (n + 5) (k + 1) (.tuple [d]) := by
  obtain ⟨a, b, c, e⟩ := h
  refine ⟨?_, ?_, ?_, ?_⟩
  · show (d.showable && true) = true
    rw [a]
    rfl
  · show (d.hasDict || false) = false
    rw [b]
    rfl
  · show max d.depth 0 + 1 ≤ k + 1
    omega
  · show (tupleText [d.shown]).length ≤ _
    have := tupleText_len_le [d.shown]
    simp only [List.map_cons, List.map_nil, List.sum_cons, List.sum_nil, List.length_cons, List.length_nil] at this
    omega
theorem fits_2 {n k n' k' : Nat} {d d' : PyData} (h : Fits n k d) (h' : Fits n' k' d') : Fits (n + n' + 7) (max k k' + 1) (.tuple [d, d']) := by
  obtain ⟨a, b, c, e⟩ := h
  obtain ⟨a', b', c', e'⟩ := h'
  refine ⟨?_, ?_, ?_, ?_⟩
  · show (d.showable && (d'.showable && true)) = true
    rw [a, a']
    rfl
  · show (d.hasDict || (d'.hasDict || false)) = false
    rw [b, b']
    rfl
  · show max d.depth (max d'.depth 0) + 1 ≤ max k k' + 1
    omega
  · show (tupleText [d.shown, d'.shown]).length ≤ _
    have := tupleText_len_le [d.shown, d'.shown]
    simp only [List.map_cons, List.map_nil, List.sum_cons, List.sum_nil, List.length_cons, List.length_nil] at this
    omega
theorem fits_l2 {n k n' k' : Nat} {d d' : PyData} (h : Fits n k d) (h' : Fits n' k' d') : Fits (n + n' + 7) (max k k' + 1) (.list [d, d']) := by
  obtain ⟨a, b, c, e⟩ := h
  obtain ⟨a', b', c', e'⟩ := h'
  refine ⟨?_, ?_, ?_, ?_⟩
  · show (d.showable && (d'.showable && true)) = true
    rw [a, a']
    rfl
  · show (d.hasDict || (d'.hasDict || false)) = false
    rw [b, b']
    rfl
  · show max d.depth (max d'.depth 0) + 1 ≤ max k k' + 1
    omega
  · show (listText [d.shown, d'.shown]).length ≤ _
    have := listText_len_le [d.shown, d'.shown]
    simp only [List.map_cons, List.map_nil, List.sum_cons, List.sum_nil, List.length_cons, List.length_nil] at this
    omega
theorem fits_3 {n k n' k' n2 k2 : Nat} {d d' d2 : PyData} (h : Fits n k d) (h' : Fits n' k' d') (h2 : Fits n2 k2 d2) : Fits (n + n' + n2 + 9) (max k (max k' k2) + 1) (.tuple [d, d', d2]) := by
  obtain ⟨a, b, c, e⟩ := h
  obtain ⟨a', b', c', e'⟩ := h'
  obtain ⟨a2, b2, c2, e2⟩ := h2
  refine ⟨?_, ?_, ?_, ?_⟩
  · show (d.showable && (d'.showable && (d2.showable && true))) = true
    rw [a, a', a2]
    rfl
  · show (d.hasDict || (d'.hasDict || (d2.hasDict || false))) = false
    rw [b, b', b2]
    rfl
  · show max d.depth (max d'.depth (max d2.depth 0)) + 1 ≤ _
    omega
  · show (tupleText [d.shown, d'.shown, d2.shown]).length ≤ _
    have := tupleText_len_le [d.shown, d'.shown, d2.shown]
    simp only [List.map_cons, List.map_nil, List.sum_cons, List.sum_nil, List.length_cons, List.length_nil] at this
    omega
/-- what repr and is_effect ask -/
structure Shw (d : PyData) : Prop where
  sh : d.showable = true
  nd : d.hasDict = true → d = .dict []
  dp : d.depth ≤ 64
  ln : d.shown.length ≤ sizeLine
  tl : tupLen d ≤ 1000000
  it : ∀ ds, d = .tuple ds → ∀ x ∈ ds, tupLen x ≤ 1000000
theorem Fits.shw {n k : Nat} {d : PyData} (h : Fits n k d) (hn : n ≤ 1000000) (hk : k ≤ 64) (tl : tupLen d ≤ 1000000) (it : ∀ ds, d = .tuple ds → ∀ x ∈ ds, tupLen x ≤ 1000000) : Shw d :=
  ⟨h.sh, (fun z => by rw [h.nd] at z; cases z), Nat.le_trans h.dp hk, sl_of (Nat.le_trans h.ln hn), tl, it⟩
theorem it_2 {a b : PyData} (h1 : tupLen a ≤ 1000000) (h2 : tupLen b ≤ 1000000) : ∀ ds, PyData.tuple [a, b] = .tuple ds → ∀ x ∈ ds, tupLen x ≤ 1000000 := fun ds e x hx => by
  cases PyData.tuple.inj e
  rcases List.mem_cons.mp hx with z | hx
  · rw [z]; exact h1
  rcases List.mem_cons.mp hx with z | hx
  · rw [z]; exact h2
  · exact absurd hx List.not_mem_nil
def Good (K : PySem.W.Frag) (H : Hp) (v : V) : Prop := ∃ d, DpX K H v d ∧ Shw d
section
variable {K : PySem.W.Frag} {H H' : Hp} {v : V} {l : List V}
theorem Good.same (e : Same H H') (h : Good K H v) : Good K H' v := h.elim fun d z => ⟨d, DpX.same e z.1, z.2⟩
theorem good_nil : ∀ w ∈ ([] : List V), Good K H w := fun w h => absurd h List.not_mem_nil
theorem good_cons (h : Good K H v) (t : ∀ w ∈ l, Good K H w) : ∀ w ∈ v :: l, Good K H w := fun w hw => (List.mem_cons.mp hw).elim (fun e => e ▸ h) (t w)
theorem goods_same (e : Same H H') (h : ∀ w ∈ l, Good K H w) : ∀ w ∈ l, Good K H' w := fun w hw => Good.same e (h w hw)
theorem kp_l {p c : Addr} {n : Nat} {a : Addr} {xs : List V} (pen : PenAt H p c n) (k : Kp p H H') (h : SqL K H a xs) : SqL K H' a xs := by
  obtain ⟨kvs, hp⟩ := pen.dict
  rcases h with (h | ⟨o, h⟩) | h
  · exact .inl (.inl (k _ _ (ne_of h hp (by intro z; cases z)) h))
  · exact .inl (.inr ⟨o, k _ _ (ne_of h hp (by intro z; cases z)) h⟩)
  · exact .inr h
mutual
theorem Dp.kp {p c : Addr} {n : Nat} (pen : PenAt H p c n) (k : Kp p H H') : ∀ {v : V} {d : PyData}, Dp K H v d → Dp K H' v d
  | _, _, .non => .non
  | _, _, .bl b => .bl b
  | _, _, .int i => .int i
  | _, _, .str x => .str x
  | _, _, .lst hs ha => .lst (kp_l pen k hs) (DpAll.kp pen k ha)
  | _, _, .tup hs ha => .tup (tp_t (pen.tp k) hs) (DpAll.kp pen k ha)
theorem DpAll.kp {p c : Addr} {n : Nat} (pen : PenAt H p c n) (k : Kp p H H') : ∀ {vs : List V} {ds : List PyData}, DpAll K H vs ds → DpAll K H' vs ds
  | _, _, .nil => .nil
  | _, _, .cons h t => .cons (Dp.kp pen k h) (DpAll.kp pen k t)
end
theorem Good.kp {p c : Addr} {n : Nat} (pen : PenAt H p c n) (k : Kp p H H') (h : Good K H v) : Good K H' v := by
  obtain ⟨d, hd | ⟨a, e1, e2, e3⟩, s⟩ := h
  · exact ⟨d, .inl (Dp.kp pen k hd), s⟩
  · obtain ⟨ns, u, l, hp, _⟩ := pen.ex
    refine ⟨d, .inr ⟨a, e1, k _ _ (ne_of e2 hp (fun z => ?_)) e2, e3⟩, s⟩
    injection z with z
    cases z
end
def sp__law_odd_value (K : PySem.W.Frag) : Sp := fun vs H Q _ => ∃ (p c : Addr) (n : Nat), vs = [.ref p] ∧ PenAt H p c n ∧ n < 2 ^ 38 ∧ ∀ v H', Kp p H H' → PenAt H' p c (n + 1) → Good K H' v → Q v H'
/-- order of any effect -/
def ordV (p : Int) (f : Pol) (m : Int) : V := if m = 0 then .int (if f = [] then 1 else p) else .non
def sp_orderG (K : PySem.W.Frag) : Sp := fun vs H Q _ => ∃ (p : Int) (v : V) (f : Pol) (m : Int), vs = [.int p, v] ∧ TEff K H v f m ∧ Q (ordV p f m) H
/-- is_effect as the law tells it, term by term -/
def chk (p : Int) : Option Int → List PyData → Bool
  | _, [] => true
  | last, d :: r => isTerm p d && ((match last with | none => true | some l => decide (l < expo d)) && chk p (some (expo d)) r)
theorem chk_some (p : Int) : ∀ (r : List PyData) (d : PyData), chk p (some (expo d)) r = (r.all (isTerm p) && ascD (d :: r))
  | [], d => rfl
  | x :: r, d => by
    show (isTerm p x && (decide (expo d < expo x) && chk p (some (expo x)) r)) = ((isTerm p x && r.all (isTerm p)) && (decide (expo d < expo x) && ascD (x :: r)))
    rw [chk_some p r x]
    cases isTerm p x <;> cases decide (expo d < expo x) <;> cases r.all (isTerm p) <;> cases ascD (x :: r) <;> rfl
theorem chk_none (p : Int) (ds : List PyData) : chk p none ds = isPoly p (.tuple ds) := by
  cases ds with
  | nil => rfl
  | cons d r =>
    show (isTerm p d && (true && chk p (some (expo d)) r)) = ((isTerm p d && r.all (isTerm p)) && ascD (d :: r))
    rw [chk_some]
    cases isTerm p d <;> cases r.all (isTerm p) <;> cases ascD (d :: r) <;> rfl
end DR
namespace DR
open PySem PySem.Spec PyProof.Rows L2
/-! ### values laid out by hand -/
def shwB (d : PyData) : Bool := d.showable && (!d.hasDict || (match d with | .dict [] => true | _ => false)) && decide (d.depth ≤ 64) && decide (d.shown.length ≤ 1000000) && decide (tupLen d ≤ 1000000) && (match d with | .tuple ds => ds.all (fun x => decide (tupLen x ≤ 1000000)) | _ => true)
theorem shw_of {d : PyData} (h : shwB d = true) : Shw d := by
  simp only [shwB, Bool.and_eq_true] at h
  obtain ⟨⟨⟨⟨⟨h1, h2⟩, h3⟩, h4⟩, h5⟩, h6⟩ := h
  refine ⟨h1, fun z => ?_, of_decide_eq_true h3, sl_of (of_decide_eq_true h4), of_decide_eq_true h5, ?_⟩
  · rw [z] at h2
    cases d with
    | dict l =>
      cases l with
      | nil => rfl
      | cons _ _ => cases h2
    | _ => cases h2
  · rintro ds rfl x hx
    exact of_decide_eq_true (List.all_eq_true.mp h6 x hx)
structure Nice (n k : Nat) (d : PyData) : Prop where
  f : Fits n k d
  tl : tupLen d ≤ 1000000
  it : ∀ ds, d = .tuple ds → ∀ x ∈ ds, tupLen x ≤ 1000000
theorem Nice.up {n k n' k' : Nat} {d : PyData} (h : Nice n k d) (a : n ≤ n') (b : k ≤ k') : Nice n' k' d := ⟨h.f.up a b, h.tl, h.it⟩
theorem nice_int {i : Int} (h : i.natAbs < 10 ^ 100) : Nice 101 0 (.int i) := ⟨fits_int h, Nat.zero_le _, fun _ e => by cases e⟩
theorem nice_of {n k : Nat} {d : PyData} (a : d.showable = true) (b : d.hasDict = false) (c : d.depth ≤ k) (e : d.shown.length ≤ n) (t : tupLen d ≤ 1000000) (i : ∀ ds, d = .tuple ds → ∀ x ∈ ds, tupLen x ≤ 1000000) : Nice n k d := ⟨⟨a, b, c, e⟩, t, i⟩
theorem nice_pd {g : Pol} (h : Sm g) (hl : g.length ≤ 101) : Nice 22000 2 (pd g) := ⟨(fits_pd h).up (by omega) (Nat.le_refl _), by
  show (g.map pr).length ≤ _
  rw [List.length_map]
  omega, fun ds e x hx => by
  cases PyData.tuple.inj e
  obtain ⟨t, _, rfl⟩ := List.mem_map.mp hx
  show 2 ≤ 1000000
  decide⟩
theorem nice_lpd {g : Pol} (h : Sm g) (hl : g.length ≤ 101) : Nice 22000 2 (.list (g.map pr)) := ⟨(fits_list h).up (by omega) (Nat.le_refl _), Nat.zero_le _, fun ds e => by cases e⟩
theorem nice_1 {n k : Nat} {d : PyData} (h : Nice n k d) : Nice (n + 5) (k + 1) (.tuple [d]) := ⟨fits_1 h.f, (show 1 ≤ 1000000 by decide), fun ds e x hx => by
  cases PyData.tuple.inj e
  rcases List.mem_cons.mp hx with z | hx
  · rw [z]; exact h.tl
  · exact absurd hx List.not_mem_nil⟩
theorem nice_2 {n k n' k' : Nat} {d d' : PyData} (h : Nice n k d) (h' : Nice n' k' d') : Nice (n + n' + 7) (max k k' + 1) (.tuple [d, d']) := ⟨fits_2 h.f h'.f, (show 2 ≤ 1000000 by decide), it_2 h.tl h'.tl⟩
theorem nice_l2 {n k n' k' : Nat} {d d' : PyData} (h : Nice n k d) (h' : Nice n' k' d') : Nice (n + n' + 7) (max k k' + 1) (.list [d, d']) := ⟨fits_l2 h.f h'.f, Nat.zero_le _, fun ds e => by cases e⟩
theorem nice_3 {n k n' k' n2 k2 : Nat} {d d' d2 : PyData} (h : Nice n k d) (h' : Nice n' k' d') (h2 : Nice n2 k2 d2) : Nice (n + n' + n2 + 9) (max k (max k' k2) + 1) (.tuple [d, d', d2]) := ⟨fits_3 h.f h'.f h2.f, (show 3 ≤ 1000000 by decide), fun ds e x hx => by
  cases PyData.tuple.inj e
  rcases List.mem_cons.mp hx with z | hx
  · rw [z]; exact h.tl
  rcases List.mem_cons.mp hx with z | hx
  · rw [z]; exact h'.tl
  rcases List.mem_cons.mp hx with z | hx
  · rw [z]; exact h2.tl
  · exact absurd hx List.not_mem_nil⟩
def FA (K : PySem.W.Frag) (H : Hp) (v : V) : Prop := ∃ d, Dp K H v d ∧ Nice 25000 3 d
def FB (K : PySem.W.Frag) (H : Hp) (v : V) : Prop := ∃ d, Dp K H v d ∧ Nice 100000 4 d
section
variable {K : PySem.W.Frag} {H : Hp} {b : Addr}
theorem dn_tup (nb : H b = none) (xs : List V) (ds : List PyData) (hd : DpAll K (upd H b (.tup xs)) xs ds) : Dp K (upd H b (.tup xs)) (.ref b) (.tuple ds) := .tup (SqT.of upd_same) hd
theorem dn_lst (nb : H b = none) (xs : List V) (ds : List PyData) (hd : DpAll K (upd H b (.lst xs)) xs ds) : Dp K (upd H b (.lst xs)) (.ref b) (.list ds) := .lst (SqL.of upd_same) hd
theorem dn_dct (nb : H b = none) : DpX K (upd H b (.dK [])) (.ref b) (.dict []) := .inr ⟨b, rfl, upd_same, rfl⟩
theorem same_top (nb : H b = none) (o : HO) : Same (upd H b o) (upd H b o) := Same.refl _

variable {H' : Hp} {v w x : V} {Q : VK}
theorem FA.same (e : Same H H') (h : FA K H v) : FA K H' v := h.elim fun d z => ⟨d, Dp.same e z.1, z.2⟩
theorem FB.same (e : Same H H') (h : FB K H v) : FB K H' v := h.elim fun d z => ⟨d, Dp.same e z.1, z.2⟩
theorem FA.kp {p c : Addr} {n : Nat} (pen : PenAt H p c n) (k : Kp p H H') (h : FA K H v) : FA K H' v := h.elim fun d z => ⟨d, Dp.kp pen k z.1, z.2⟩
theorem FB.kp {p c : Addr} {n : Nat} (pen : PenAt H p c n) (k : Kp p H H') (h : FB K H v) : FB K H' v := h.elim fun d z => ⟨d, Dp.kp pen k z.1, z.2⟩
theorem FA.fb (h : FA K H v) : FB K H v := h.elim fun d z => ⟨d, z.1, z.2.up (by decide) (by decide)⟩
theorem FB.good (h : FB K H v) : Good K H v := h.elim fun d z => ⟨d, .inl z.1, z.2.f.shw (by decide) (by decide) z.2.tl z.2.it⟩
theorem fa_int {i : Int} (h : i.natAbs < 10 ^ 100) : FA K H (.int i) := ⟨_, .int i, (nice_int h).up (by decide) (by decide)⟩
theorem fb_t1 (nb : H b = none) (h : FA K H v) : FB K (upd H b (.tup [v])) (.ref b) := h.elim fun d z => ⟨_, dn_tup nb _ _ (.cons (Dp.same (same_new nb) z.1) .nil), (nice_1 z.2).up (by decide) (by decide)⟩
theorem fb_t2 (nb : H b = none) (h : FA K H v) (h' : FA K H w) : FB K (upd H b (.tup [v, w])) (.ref b) := h.elim fun d z => h'.elim fun d' z' => ⟨_, dn_tup nb _ _ (.cons (Dp.same (same_new nb) z.1) (.cons (Dp.same (same_new nb) z'.1) .nil)), (nice_2 z.2 z'.2).up (by decide) (by decide)⟩
theorem fb_l2 (nb : H b = none) (h : FA K H v) (h' : FA K H w) : FB K (upd H b (.lst [v, w])) (.ref b) := h.elim fun d z => h'.elim fun d' z' => ⟨_, dn_lst nb _ _ (.cons (Dp.same (same_new nb) z.1) (.cons (Dp.same (same_new nb) z'.1) .nil)), (nice_l2 z.2 z'.2).up (by decide) (by decide)⟩
theorem fb_t3 (nb : H b = none) (h : FA K H v) (h' : FA K H w) (h2 : FA K H x) : FB K (upd H b (.tup [v, w, x])) (.ref b) := h.elim fun d z => h'.elim fun d' z' => h2.elim fun d2 z2 => ⟨_, dn_tup nb _ _ (.cons (Dp.same (same_new nb) z.1) (.cons (Dp.same (same_new nb) z'.1) (.cons (Dp.same (same_new nb) z2.1) .nil))), (nice_3 z.2 z'.2 z2.2).up (by decide) (by decide)⟩
theorem DpAll.append : ∀ {xs ys : List V} {ds es : List PyData}, DpAll K H xs ds → DpAll K H ys es → DpAll K H (xs ++ ys) (ds ++ es)
  | _, _, _, _, .nil, t => t
  | _, _, _, _, .cons h r, t => .cons h (DpAll.append r t)
theorem DpAll.rev : ∀ {xs : List V} {ds : List PyData}, DpAll K H xs ds → DpAll K H xs.reverse ds.reverse
  | _, _, .nil => .nil
  | _, _, .cons h r => by
    rw [List.reverse_cons, List.reverse_cons]
    exact DpAll.append (DpAll.rev r) (.cons h .nil)
theorem Sm.rev {g : Pol} (h : Sm g) : Sm g.reverse := ⟨by rw [List.length_reverse]; exact h.len, fun t ht => h.abs t (List.mem_reverse.mp ht)⟩
theorem Sm.snoc {g : Pol} (h : Sm g) (hl : g.length ≤ 100) : Sm (g ++ [(0, 1)]) := ⟨by rw [List.length_append]; show g.length + 1 ≤ _; omega, fun t ht => by
  rcases List.mem_append.mp ht with z | z
  · exact h.abs t z
  · cases List.mem_singleton.mp z
    decide⟩
/-- a heap without the lists that another one holds -/
def er (H0 H : Hp) : Hp := fun b => match H0 b with | some (.lst _) => none | _ => H b
theorem er_at {H0 : Hp} {o : HO} (h : er H0 H b = some o) : H b = some o ∧ ∀ xs, H0 b ≠ some (.lst xs) := by
  unfold er at h
  split at h
  · cases h
  · next h2 => exact ⟨h, fun xs e => h2 xs e⟩
theorem er_of {H0 : Hp} {o : HO} (h : H b = some o) (n : ∀ xs, H0 b ≠ some (.lst xs)) : er H0 H b = some o := by
  unfold er
  split
  · next xs e => exact absurd e (n xs)
  · exact h
theorem er_sub (H0 H : Hp) : Same (er H0 H) H := fun b o e => (er_at e).1
theorem er_same {H0 : Hp} (s : Same H H') : Same (er H0 H) (er H0 H') := fun b o e => er_of (s _ _ (er_at e).1) (er_at e).2
theorem er_kp {H0 : Hp} {p : Addr} (k : Kp p H H') : Kp p (er H0 H) (er H0 H') := fun b o nb e => er_of (k _ _ nb (er_at e).1) (er_at e).2
/-- lists stay -/
def Al (H0 H : Hp) : Prop := ∀ b xs, H0 b = some (.lst xs) → H b ≠ none
theorem Al.refl (H : Hp) : Al H H := fun b xs e z => by rw [e] at z; cases z
theorem Al.same {H0 : Hp} (h : Al H0 H) (s : Same H H') : Al H0 H' := fun b xs e z => by
  cases hb : H b with
  | none => exact h b xs e hb
  | some o => rw [s _ _ hb] at z; cases z
theorem Al.kp {H0 : Hp} {p c : Addr} {n : Nat} (h : Al H0 H) (k : Kp p H H') (pen : PenAt H' p c n) : Al H0 H' := fun b xs e z => by
  by_cases hp : b = p
  · subst hp
    obtain ⟨kvs, d⟩ := pen.dict
    rw [z] at d
    cases d
  · cases hb : H b with
    | none => exact h b xs e hb
    | some o => rw [k _ _ hp hb] at z; cases z
theorem er_new {H0 : Hp} {o : HO} (s : Al H0 H) (nb : H b = none) : Same (upd (er H0 H) b o) (er H0 (upd H b o)) := fun a u e => by
  by_cases h : a = b
  · subst h
    rw [upd_same] at e
    exact er_of (by rw [upd_same]; exact e) fun xs z => s _ _ z nb
  · rw [upd_ne h] at e
    refine er_of ?_ (er_at e).2
    rw [upd_ne h]
    exact (er_at e).1
theorem er_none {H0 : Hp} (nb : H b = none) : er H0 H b = none := by
  unfold er
  split
  · rfl
  · exact nb
theorem er_tp (H : Hp) : Tp H (er H H) := ⟨fun b xs e => er_of e fun ys z => (by rw [e] at z; cases z), fun b o u e => er_of e fun ys z => (by rw [e] at z; cases z)⟩
theorem cat_pol {a c : Addr} {xs : List V} {e : V} (ha : SqT K H a xs) (hb : SqT K H b [e]) (hl : xs.length ≤ 1000) (k0 : xs = [] → Q (.ref b) H) (k : ∀ p, H p = none → Q (.ref p) (upd H p (.tup (xs ++ [e])))) : rCatA K (.ref a) (.ref b) H Q :=
  ⟨a, b, xs, _, rfl, rfl, ha, hb, sl_of (show xs.length + 1 ≤ 1000000 by omega), k0, fun _ z => (by cases z), fun _ _ p np => k p np⟩
theorem tp_kp {p : Addr} {kvs : List (Key × V)} (hp : H p = some (.dK kvs)) (k : Kp p H H') : Tp H H' := ⟨fun b xs e => k _ _ (ne_of e hp (by intro z; cases z)) e, fun b o u e => k _ _ (ne_of e hp (by intro z; cases z)) e⟩
theorem kpd_l {p : Addr} {kvs : List (Key × V)} {a : Addr} {xs : List V} (hp : H p = some (.dK kvs)) (k : Kp p H H') (h : SqL K H a xs) : SqL K H' a xs := by
  rcases h with (h | ⟨o, h⟩) | h
  · exact .inl (.inl (k _ _ (ne_of h hp (by intro z; cases z)) h))
  · exact .inl (.inr ⟨o, k _ _ (ne_of h hp (by intro z; cases z)) h⟩)
  · exact .inr h
mutual
theorem Dp.kpd {p : Addr} {kvs : List (Key × V)} (hp : H p = some (.dK kvs)) (k : Kp p H H') : ∀ {v : V} {d : PyData}, Dp K H v d → Dp K H' v d
  | _, _, .non => .non
  | _, _, .bl b => .bl b
  | _, _, .int i => .int i
  | _, _, .str x => .str x
  | _, _, .lst hs ha => .lst (kpd_l hp k hs) (DpAll.kpd hp k ha)
  | _, _, .tup hs ha => .tup (tp_t (tp_kp hp k) hs) (DpAll.kpd hp k ha)
theorem DpAll.kpd {p : Addr} {kvs : List (Key × V)} (hp : H p = some (.dK kvs)) (k : Kp p H H') : ∀ {vs : List V} {ds : List PyData}, DpAll K H vs ds → DpAll K H' vs ds
  | _, _, .nil => .nil
  | _, _, .cons h t => .cons (Dp.kpd hp k h) (DpAll.kpd hp k t)
end
theorem FA.kpd {H0 : Hp} {p c c' : Addr} {n n' : Nat} (pen0 : PenAt H0 p c n) (pen : PenAt H p c' n') (k : Kp p H H') (h : FA K (er H0 H) v) : FA K (er H0 H') v := h.elim fun d z => by
  obtain ⟨kvs, hp⟩ := pen.dict
  obtain ⟨kvs0, hp0⟩ := pen0.dict
  exact ⟨d, Dp.kpd (er_of hp fun xs e => by rw [hp0] at e; cases e) (er_kp k) z.1, z.2⟩
theorem FB.kpd {H0 : Hp} {p c c' : Addr} {n n' : Nat} (pen0 : PenAt H0 p c n) (pen : PenAt H p c' n') (k : Kp p H H') (h : FB K (er H0 H) v) : FB K (er H0 H') v := h.elim fun d z => by
  obtain ⟨kvs, hp⟩ := pen.dict
  obtain ⟨kvs0, hp0⟩ := pen0.dict
  exact ⟨d, Dp.kpd (er_of hp fun xs e => by rw [hp0] at e; cases e) (er_kp k) z.1, z.2⟩
theorem all_nil {P : V → Prop} : ∀ w ∈ ([] : List V), P w := fun w h => absurd h List.not_mem_nil
theorem all_cons {P : V → Prop} {l : List V} (h : P v) (t : ∀ w ∈ l, P w) : ∀ w ∈ v :: l, P w := fun w hw => (List.mem_cons.mp hw).elim (fun e => e ▸ h) (t w)
theorem all_app {P : V → Prop} {l m : List V} (h : ∀ w ∈ l, P w) (t : ∀ w ∈ m, P w) : ∀ w ∈ l ++ m, P w := fun w hw => (List.mem_append.mp hw).elim (h w) (t w)
theorem cat_polG {H0 : Hp} {a : Addr} {xs : List V} {e : V} (ha : SqT K H a xs) (hb : SqT K H b [e]) (hl : xs.length ≤ 1000) (f0 : FA K (er H0 H) (.ref b)) (f : ∀ p, H p = none → FA K (er H0 (upd H p (.tup (xs ++ [e])))) (.ref p)) (k : ∀ v H', Same H H' → FA K (er H0 H') v → Q v H') : rCatA K (.ref a) (.ref b) H Q :=
  cat_pol (c := b) ha hb hl (fun _ => k _ _ (Same.refl H) f0) fun p np => k _ _ (same_new np) (f p np)
theorem lcTerm {H0 : Hp} {a : Addr} {xs : List V} {σ : L2.St} {vs : List Nat} {n i : Nat} {te : TE} (m : Int) (hm : m.natAbs < 10 ^ 100) (hv : σ[n]? = some (some (.ref a))) (hs : H a = some (.lst xs)) (hl : xs.length ≤ 1000) (al : Al H0 H) (hw : ∀ x, wipe ((wipe σ vs).set i (some x)) vs = wipe σ vs)
    (he : ∀ x H2 (R : VK), (∀ b, H2 b = none → R (.ref b) (upd H2 b (.tup [x, .int m]))) → te ((wipe σ vs).set i (some x)) H2 R) (hF : ∀ x ∈ xs, FA K (er H0 H) x)
    (k : ∀ D ys H2, Same H H2 → H2 D = some (.lst ys) → ys.length = xs.length → (∀ y ∈ ys, FB K (er H0 H2) y) → Q (.ref D) H2) : tLc (iList K (tVar n)) (gName i) tYes te vs σ H Q := by
  refine ⟨_, hv, a, rfl, ⟨_, SqL.of hs⟩, fun D nD => lc_list (K := K) (a := a) (xs := xs) (fun m' H2 => ∃ acc, H2 D = some (.lst acc) ∧ acc.length = m' ∧ Same H H2 ∧ ∀ y ∈ acc, ∃ b x, y = V.ref b ∧ H2 b = some (.tup [x, .int m]) ∧ H b = none ∧ x ∈ xs) ⟨[], upd_same, rfl, same_new nD, fun y h => absurd h List.not_mem_nil⟩ (fun m' H2 _ ⟨acc, h1, h2, s2, h3⟩ => SqL.of (s2 _ _ hs)) ?_ ?_⟩
  · rintro i' x H2 hi ⟨acc, hD, hlen, s2, hA⟩
    refine ⟨hw _, ?_⟩
    dsimp only [tYes]
    rw [if_pos rfl]
    have hi' : i' < xs.length := (List.getElem?_eq_some_iff.mp hi).1
    refine he x H2 _ fun b nb => ?_
    have nbD : D ≠ b := fun z => by rw [← z, hD] at nb; cases nb
    refine ⟨acc, by rw [upd_ne nbD]; exact hD, sl_lt (by omega), acc ++ [.ref b], upd_same, by rw [List.length_append, hlen]; rfl, same_mut (s2.trans (same_new nb)) nD, fun y hy => ?_⟩
    rcases List.mem_append.mp hy with h | h
    · obtain ⟨b', x', e, h1, h2, h3⟩ := hA y h
      refine ⟨b', x', e, ?_, h2, h3⟩
      rw [upd_ne (ne_of h1 hD (by intro z; cases z)), upd_ne (fun z => by rw [z, nb] at h1; cases h1)]
      exact h1
    · have e : y = .ref b := by simpa using h
      refine ⟨b, x, e, ?_, ?_, List.mem_of_getElem? hi⟩
      · rw [upd_ne nbD.symm, upd_same]
      · cases hb : H b with
        | none => rfl
        | some o => rw [s2 _ _ hb] at nb; cases nb
  · rintro H2 ⟨acc, hD, hlen, s2, hA⟩
    refine k D acc H2 s2 hD hlen fun y hy => ?_
    obtain ⟨b, x, rfl, h1, h2, h3⟩ := hA y hy
    obtain ⟨d, hd, hn⟩ := hF x h3
    exact ⟨_, .tup (SqT.of (er_of h1 fun ys z => al _ _ z h2)) (.cons (Dp.same (er_same s2) hd) (.cons (.int m) .nil)), (nice_2 hn (nice_int hm)).up (by decide) (by decide)⟩
end
def sp__law_changed9 (K : PySem.W.Frag) : Sp := fun vs H Q _ => ∃ (p c : Addr) (q : Int) (e : V) (g : Pol) (m : Int) (n : Nat), vs = [.ref p, .int q, e] ∧ 2 ≤ q ∧ q ≤ 97 ∧ TEff K H e g m ∧ Sm g ∧ g.length ≤ 100 ∧ m.natAbs < 10 ^ 90 ∧ PenAt H p c n ∧ n < 2 ^ 38 ∧ ∀ v H', Kp p H H' → PenAt H' p c (n + 2) → Good K (er H H') v → Q v H'
theorem op_mulOk {X : Cx} : OpR X (binaryOp .Mult) (rI IntMulOk fun i j => .int (i * j)) := opI fun _ _ _ _ _ _ _ hc q => mul_int q hc
def er1 (D : Addr) (H : Hp) : Hp := fun b => if b = D then none else H b
theorem er1_at {D b : Addr} {H : Hp} {o : HO} (h : er1 D H b = some o) : b ≠ D ∧ H b = some o := by
  unfold er1 at h
  split at h
  · cases h
  · next z => exact ⟨z, h⟩
theorem er1_of {D b : Addr} {H : Hp} {o : HO} (n : b ≠ D) (h : H b = some o) : er1 D H b = some o := by
  unfold er1
  rw [if_neg n]
  exact h
theorem er1_pen {D p c : Addr} {H : Hp} {n : Nat} (hp : p ≠ D) (hc : c ≠ D) (pen : PenAt H p c n) : PenAt (er1 D H) p c n := by
  obtain ⟨ns, u, l, h1, h2, h3, h4⟩ := pen.ex
  exact ⟨⟨ns, u, l, er1_of hp h1, er1_of hc h2, h3, h4⟩⟩
theorem lcPenG {K : PySem.W.Frag} {p c : Addr} {σ : L2.St} {H : Hp} {vs : List Nat} {i : Nat} {te : TE} {Q : VK} (n : Nat) {z : Int} (hz : z = (n : Int)) (b cost : Nat) (hn : n ≤ 1000)
    (hw : ∀ x, wipe ((wipe σ vs).set i (some x)) vs = wipe σ vs) (pen : PenAt H p c b)
    (he : ∀ (m : Nat), m < n → ∀ H2, Kp p H H2 → PenAt H2 p c (b + cost * m) → ∀ S : VK, (∀ v H3, Kp p H2 H3 → PenAt H3 p c (b + cost * (m + 1)) → Good K (er H2 H3) v → S v H3) → te ((wipe σ vs).set i (some (.int (0 + (m : Int))))) H2 S)
    (k : ∀ D xs H2, xs.length = n → H2 D = some (.lst xs) → (∀ v ∈ xs, Good K H2 v) → Kp p H H2 → PenAt H2 p c (b + cost * n) → Q (.ref D) H2) : tLc (iRng1 (tCons (tC (.int z)) tNil)) (gName i) tYes te vs σ H Q := by
  subst hz
  refine ⟨(n : Int), rfl, by omega, by omega, fun D nD => lc_range (lo := 0) (n := ((n : Int)).toNat) (fun m H2 => ∃ xs, H2 D = some (.lst xs) ∧ xs.length = m ∧ (∀ v ∈ xs, Good K (er1 D H2) v) ∧ Kp p H H2 ∧ PenAt H2 p c (b + cost * m)) ⟨[], upd_same, rfl, fun v h => absurd h List.not_mem_nil, Same.kp (same_new nD), pen.same (same_new nD)⟩ ?_ ?_⟩
  · rintro m H2 hm ⟨xs, hD, hl, hR, kp, pen2⟩
    refine ⟨hw _, ?_⟩
    dsimp only [tYes]
    rw [if_pos rfl]
    refine he m (by omega) H2 kp pen2 _ fun v H3 k3 pen3 hv => ?_
    have npD := pen.np nD
    have ncD := pen.nc nD
    have hD3 : H3 D = some (.lst xs) := k3 _ _ npD hD
    refine ⟨xs, hD3, sl_lt (by omega), xs ++ [v], upd_same, by rw [List.length_append, hl]; rfl, fun w hw' => ?_, fun x o nx ex => ?_, pen3.upd npD ncD⟩
    · rcases List.mem_append.mp hw' with h | h
      · refine Good.kp (er1_pen npD.symm ncD.symm pen2) (fun x o nx ex => ?_) (hR w h)
        obtain ⟨h1, h2⟩ := er1_at ex
        exact er1_of h1 (by rw [upd_ne h1]; exact k3 _ _ nx h2)
      · have e : w = v := by simpa using h
        rw [e]
        refine Good.same (fun x o ex => ?_) hv
        obtain ⟨h1, h2⟩ := er_at ex
        have h3 : x ≠ D := fun z => h2 xs (z ▸ hD)
        exact er1_of h3 (by rw [upd_ne h3]; exact h1)
    · rw [upd_ne (ne_of_none ex nD)]
      exact k3 _ _ nx (kp _ _ nx ex)
  · rintro H2 ⟨xs, hD, hl, hR, kp, pen2⟩
    exact k D xs H2 (by rw [hl]; omega) hD (fun v hv => Good.same (fun x o ex => (er1_at ex).2) (hR v hv)) kp (pen2.mono (by rw [Int.toNat_natCast]; exact Nat.le_refl _))
end DR
namespace DR
open PySem PySem.Spec PyProof.Rows L2
/-! ### a call by keywords alone -/
section
variable {X : Cx} {CX : CXT} {k : Nat} {f : Addr} {fd : FuncData} {ps ks : List Str} {sp : Sp} {E : XK} {x : Str} {p pos : Pos} {kws : List Keyword} {tk : TA} {g : List Value → List Value → List Value} {gV : List V → List V → List V}
/-- the keywords of a call, none of them `**` -/
structure KwsAre (pos : Pos) (kws : List Keyword) (env : Env) (ks : List Str) : Prop where
  named : (backToKw pos (keywordEach kws env)).all (·.1.isSome) = true
  names : (backToKw pos (keywordEach kws env)).filterMap (·.1) = ks
  plain : ((backTo pos (starEach [] env)).any (·.1) || (backToKw pos (keywordEach kws env)).any (·.1.isNone)) = false
theorem pe_callK0 (F : FnOk X.prog X.w X.K X.mg X.base CX k f fd ps sp) (hr : Room k X.A) (hg : Gl X x) (hm : X.mg x = some (.ref f)) (hk : PySem.W.keepIn X.K (.ref f) = true) (hb : KBinds X.K fd ps ks g gV) (hx : Passes CX X E) (hkw : PK X kws tk)
    (said : KwsAre pos kws X.env ks := by exact ⟨rfl, rfl, rfl⟩) (hdb : (x == ("__debug__" : Str)) = false := by decide) :
    PE X (.Call (.Name x p) [] kws pos) (tCallK sp gV E tNil tk) := by
  refine ⟨fun pins now σ H Q I told => wpAny_Call_Name_kw (ld_glob I hg hm (PySem.W.callWith_KW0 (h₀ := X.base) I.ok.mod.kin hk said.named ?_ said.plain) hdb)⟩
  refine thn (hkw.run pos pins now σ H _ I told) fun ws s2 ⟨zs, H2, I2, rz, q2⟩ => ⟨I2.kIn, ?_⟩
  rw [said.names]
  exact run_fnk (us := []) (vs := []) F hr hb hx I2 .nil rz q2
end
/-- two keywords, in the other order -/
def sw2 {α : Type} : List α → List α → List α
  | [], [a, b] => [b, a]
  | _, _ => []
theorem sw2_rel {vs : List V} {us : List Value} {zs : List V} {ws : List Value} (h : Vals vs us) (h2 : Vals zs ws) : Vals (sw2 vs zs) (sw2 us ws) := by
  cases h with
  | nil =>
    cases h2 with
    | nil => exact .nil
    | cons a t =>
      cases t with
      | nil => exact .nil
      | cons b t2 =>
        cases t2 with
        | nil => exact .cons b (.cons a .nil)
        | cons _ _ => exact .nil
  | cons _ _ =>
    cases h2 with
    | nil => exact .nil
    | cons a t => exact .nil
structure CalW (P : Program) (w : World) (K : PySem.W.Frag) (mg : Str → Option Value) (base : Heap) (k : Nat) (x : Str) (k1 k2 : Str) (sp : Sp) : Prop where
  ex : ∃ (f : Addr) (fd : FuncData), FnOk P w K mg base CX0 k f fd [k2, k1] sp ∧ mg x = some (.ref f) ∧ PySem.W.keepIn K (.ref f) = true ∧ KBinds K fd [k2, k1] [k1, k2] sw2 sw2
theorem calw_of {P : Program} {w : World} {K : PySem.W.Frag} {mg : Str → Option Value} {base : Heap} {k : Nat} {x k1 k2 : Str} {st : Stmt} {sp : Sp} (D : Df K mg x st)
    (b : ∀ (kV doc pm : Value) (an : Option Addr) (cdv ct : Value) (u v : Value), bindArgs (PySem.W.fnOf x x (defArgs st) (defBody st) (defScope st) .none kV doc pm an cdv ct) ⟨[], [(k1, u), (k2, v)]⟩ = pure [(k2, v), (k1, u)])
    (ok : ∀ f fd, Fun K x x st f fd → FnOk P w K mg base CX0 k f fd [k2, k1] sp) : CalW P w K mg base k x k1 k2 sp := by
  obtain ⟨f, fd, F, hm, kp⟩ := D.ex
  refine ⟨f, fd, ok f fd F, hm, kp, ⟨fun s us ws _ hl => ?_, sw2_rel⟩⟩
  obtain ⟨_, _, kV, doc, pm, an, cdv, ct, _, rfl, _⟩ := F.ex
  match us, ws, hl with
  | [], [u, v], _ => exact .of_eq (b kV doc pm an cdv ct u v)
theorem pe_cw {X : Cx} {k j : Nat} {x k1 k2 : Str} {sp : Sp} {p pos : Pos} {kws : List Keyword} {tk : TA} (c : CalW X.prog X.w X.K X.mg X.base k x k1 k2 sp) (hr : Room j X.A) (hk : k ≤ j) (hg : Gl X x) (hkw : PK X kws tk)
    (said : KwsAre pos kws X.env [k1, k2] := by exact ⟨rfl, rfl, rfl⟩) (hdb : (x == ("__debug__" : Str)) = false := by decide) :
    PE X (.Call (.Name x p) [] kws pos) (tCallK sp sw2 E0 tNil tk) := by
  obtain ⟨f, fd, F, hm, kp, b⟩ := c.ex
  exact pe_callK0 F (hr.mono hk) hg hm kp b pass0 hkw said hdb
/-! ### least and greatest -/
def loL (x : Int) (r : List Int) : Int := r.foldr min x
def hiL (x : Int) (r : List Int) : Int := r.foldr max x
theorem loL_le (x : Int) : ∀ (r : List Int), loL x r ≤ x ∧ ∀ y ∈ r, loL x r ≤ y
  | [] => ⟨Int.le_refl _, fun y h => absurd h List.not_mem_nil⟩
  | z :: r => by
    obtain ⟨a, b⟩ := loL_le x r
    have e : loL x (z :: r) = min z (loL x r) := rfl
    refine ⟨by omega, fun y hy => ?_⟩
    rcases List.mem_cons.mp hy with q | q
    · rw [q]; omega
    · have := b y q; omega
theorem loL_mem (x : Int) : ∀ (r : List Int), loL x r ∈ x :: r
  | [] => List.mem_cons_self
  | z :: r => by
    have h := loL_mem x r
    have e : loL x (z :: r) = min z (loL x r) := rfl
    by_cases q : z ≤ loL x r
    · rw [e, Int.min_eq_left q]
      exact List.mem_cons_of_mem _ List.mem_cons_self
    · rw [e, Int.min_eq_right (by omega)]
      rcases List.mem_cons.mp h with w | w
      · rw [w]; exact List.mem_cons_self
      · exact List.mem_cons_of_mem _ (List.mem_cons_of_mem _ w)
theorem loL_eq {x m : Int} {r : List Int} (h : m ∈ x :: r) (l : ∀ y ∈ x :: r, m ≤ y) : m = loL x r := by
  have h1 := l _ (loL_mem x r)
  have h2 : loL x r ≤ m := by
    rcases List.mem_cons.mp h with q | q
    · rw [q]; exact (loL_le x r).1
    · exact (loL_le x r).2 m q
  omega
theorem hiL_ge (x : Int) : ∀ (r : List Int), x ≤ hiL x r ∧ ∀ y ∈ r, y ≤ hiL x r
  | [] => ⟨Int.le_refl _, fun y h => absurd h List.not_mem_nil⟩
  | z :: r => by
    obtain ⟨a, b⟩ := hiL_ge x r
    have e : hiL x (z :: r) = max z (hiL x r) := rfl
    refine ⟨by omega, fun y hy => ?_⟩
    rcases List.mem_cons.mp hy with q | q
    · rw [q]; omega
    · have := b y q; omega
theorem hiL_mem (x : Int) : ∀ (r : List Int), hiL x r ∈ x :: r
  | [] => List.mem_cons_self
  | z :: r => by
    have h := hiL_mem x r
    have e : hiL x (z :: r) = max z (hiL x r) := rfl
    by_cases q : hiL x r ≤ z
    · rw [e, Int.max_eq_left q]
      exact List.mem_cons_of_mem _ List.mem_cons_self
    · rw [e, Int.max_eq_right (by omega)]
      rcases List.mem_cons.mp h with w | w
      · rw [w]; exact List.mem_cons_self
      · exact List.mem_cons_of_mem _ (List.mem_cons_of_mem _ w)
theorem hiL_eq {x m : Int} {r : List Int} (h : m ∈ x :: r) (l : ∀ y ∈ x :: r, y ≤ m) : m = hiL x r := by
  have h1 := l _ (hiL_mem x r)
  have h2 : m ≤ hiL x r := by
    rcases List.mem_cons.mp h with q | q
    · rw [q]; exact (hiL_ge x r).1
    · exact (hiL_ge x r).2 m q
  omega
/-! ### the length of an effect -/
def places (f : Pol) (m : Int) : List Int := m :: f.map (·.1)
def lo (f : Pol) (m : Int) : Int := loL 0 (places f m)
def hi (f : Pol) (m : Int) : Int := hiL 0 (places f m)
def ft (p v : Int) : Int := if p - v < v then p - v else v
def absI (m : Int) : Int := if m < 0 then -m else m
def turnsOf (p : Int) (f : Pol) : Int := (f.map fun t => ft p t.2).sum
def lenE (p : Int) (f : Pol) (m : Int) : Int := 2 * (hi f m - lo f m) - absI m + turnsOf p f
def sp_fewest_turns : Sp := fun vs H Q _ => ∃ (p v : Int), vs = [.int p, .int v] ∧ Q (.int (ft p v)) H
def sp_cost : Sp := fun vs H Q _ => ∃ (p v : Int), vs = [.int p, .int v] ∧ 0 < v ∧ v < p ∧ Q (.int (ft p v)) H
def sp_reach (K : PySem.W.Frag) : Sp := fun vs H Q _ => ∃ (v : V) (f : Pol) (m : Int), vs = [v] ∧ TEff K H v f m ∧ f.length ≤ 100000 ∧ ∀ a H', Same H H' → SqT K H' a [.int (lo f m), .int (hi f m)] → Q (.ref a) H'
def sp_length (K : PySem.W.Frag) : Sp := fun vs H Q _ => ∃ (p : Int) (v : V) (f : Pol) (m : Int), vs = [.int p, v] ∧ TEff K H v f m ∧ f.length ≤ 100000 ∧ ∀ H', Same H H' → Q (.int (lenE p f m)) H'
def sp_size (K : PySem.W.Frag) : Sp := fun vs H Q _ => ∃ (p : Int) (v : V) (f : Pol) (m : Int), vs = [.int p, v] ∧ TEff K H v f m ∧ f.length ≤ 100000 ∧ (∀ t ∈ f, 0 < t.2 ∧ t.2 < p) ∧ ∀ H', Same H H' → Q (.int (lenE p f m)) H'
/-- [an int for x, y in a tuple of pairs] -/
theorem lcTi {K : PySem.W.Frag} {a : Addr} {xs : List V} {f : Pol} {σ : L2.St} {H : Hp} {vs : List Nat} {i j : Nat} {te tv : TE} {Q : VK} (G : Int × Int → Int) (hv : ∀ R : VK, R (.ref a) H → tv σ H R) (hs : SqT K H a xs) (hP : Prs K H xs f) (hl : f.length ≤ 100000)
    (hw : ∀ x y, wipe (((wipe σ vs).set i (some x)).set j (some y)) vs = wipe σ vs)
    (he : ∀ t ∈ f, ∀ H2, Same H H2 → ∀ R : VK, R (.int (G t)) H2 → te (((wipe σ vs).set i (some (.int t.1))).set j (some (.int t.2))) H2 R)
    (k : ∀ D H2, H D = none → Same H H2 → H2 D = some (.lst ((f.map G).map V.int)) → Q (.ref D) H2) : tLc (iTup K tv) (gTup K 2 (gCons (gName i) (gCons (gName j) gNil))) tYes te vs σ H Q := by
  refine hv _ ⟨a, rfl, ⟨_, hs⟩, fun D nD => lc_tup (K := K) (a := a) (xs := xs) (fun m H2 => Same H H2 ∧ H2 D = some (.lst (((f.take m).map G).map V.int))) ⟨same_new nD, upd_same⟩ (fun m H2 _ g => same_t g.1 hs) ?_ ?_⟩
  · rintro m x H2 hm ⟨s2, h2⟩
    obtain ⟨t, ht, b, rfl, hb⟩ := hP.get hm
    refine ⟨b, _, rfl, same_t s2 hb, rfl, _, _, rfl, _, _, rfl, rfl, hw _ _, ?_⟩
    dsimp only [tYes]
    rw [if_pos rfl]
    have hm2 : m < f.length := (List.getElem?_eq_some_iff.mp ht).1
    refine he t (List.mem_of_getElem? ht) H2 s2 _ ⟨_, h2, sl_lt (by rw [List.length_map, List.length_map, List.length_take]; omega), same_mut s2 nD, ?_⟩
    rw [upd_same, take_snoc ht, List.map_append, List.map_append]
    rfl
  · rintro H2 ⟨s2, h2⟩
    rw [hP.len, List.take_length] at h2
    exact k D H2 nD s2 h2
/-- [a pair of ints for k in range(..)], drawn by the pen -/
theorem lcPenP {K : PySem.W.Frag} {p c : Addr} {σ : L2.St} {H : Hp} {vs : List Nat} {i : Nat} {te : TE} {ta : TA} {Q : VK} (R : Int × Int → Prop) (N b cost : Nat) (hn : N ≤ 1000)
    (hw : ∀ x, wipe ((wipe σ vs).set i (some x)) vs = wipe σ vs) (pen0 : PenAt H p c 0 ∨ ∃ n, PenAt H p c n)
    (hv : ∀ S : List V → Hp → Prop, (∀ (r : Int) H1, 0 ≤ r → r ≤ (N : Int) → Kp p H H1 → PenAt H1 p c b → S [.int r] H1) → ta σ H S)
    (he : ∀ (m : Nat), m < N → ∀ H2, Kp p H H2 → PenAt H2 p c (b + cost * m) → ∀ S : VK, (∀ t H3 q, R t → H3 q = none → Kp p H2 H3 → PenAt H3 p c (b + cost * (m + 1)) → S (.ref q) (upd H3 q (.tup [.int t.1, .int t.2]))) → te ((wipe σ vs).set i (some (.int (0 + (m : Int))))) H2 S)
    (k : ∀ D H2 f, LPol K H2 (.ref D) f → f.length ≤ N → (∀ t ∈ f, R t) → Kp p H H2 → PenAt H2 p c (b + cost * N) → Q (.ref D) H2) : tLc (iRng1 ta) (gName i) tYes te vs σ H Q := by
  refine hv _ fun r H1 h0 h9 kp1 pen1 => ?_
  refine ⟨r, rfl, by omega, by omega, fun D nD => ?_⟩
  have npD := pen1.np nD
  have ncD := pen1.nc nD
  refine lc_range (lo := 0) (n := r.toNat) (fun m H2 => ∃ xs f, H2 D = some (.lst xs) ∧ Prs K H2 xs f ∧ f.length = m ∧ (∀ t ∈ f, R t) ∧ Kp p H1 H2 ∧ PenAt H2 p c (b + cost * m)) ⟨[], [], upd_same, .nil, rfl, fun t h => absurd h List.not_mem_nil, Same.kp (same_new nD), pen1.same (same_new nD)⟩ ?_ ?_
  · rintro m H2 hm ⟨xs, f, hD, hP, hl, hR, kp, pen2⟩
    refine ⟨hw _, ?_⟩
    dsimp only [tYes]
    rw [if_pos rfl]
    refine he m (by omega) H2 (kp1.trans kp) pen2 _ fun t H3 q ht nq k3 pen3 => ?_
    have hD3 : H3 D = some (.lst xs) := k3 _ _ npD hD
    have nDq : D ≠ q := ne_of_none hD3 nq
    have hD4 : upd H3 q (.tup [.int t.1, .int t.2]) D = some (.lst xs) := by
      rw [upd_ne nDq]
      exact hD3
    have t2 : Tp (upd H3 q (.tup [.int t.1, .int t.2])) (upd (upd H3 q (.tup [.int t.1, .int t.2])) D (.lst (xs ++ [.ref q]))) := tp_lst hD4
    refine ⟨xs, hD4, sl_lt (by rw [hP.len]; omega), xs ++ [.ref q], f ++ [t], upd_same, Prs.snoc (Prs.tp ((pen2.tp k3).trans ((tp_new nq).trans t2)) hP) (IsPr.tp t2 isPr_new), by rw [List.length_append, hl]; rfl, fun u hu => ?_, fun x o nx ex => ?_, (pen3.same (same_new nq)).upd npD ncD⟩
    · rcases List.mem_append.mp hu with z | z
      · exact hR u z
      · have e : u = t := by simpa using z
        rw [e]; exact ht
    · rw [upd_ne (ne_of_none ex nD)]
      have e3 := k3 _ _ nx (kp _ _ nx ex)
      rw [upd_ne (ne_of_none e3 nq)]
      exact e3
  · rintro H2 ⟨xs, f, hD, hP, hl, hR, kp, pen2⟩
    refine k D H2 f ⟨D, xs, rfl, SqL.of hD, hP⟩ (by omega) hR (kp1.trans kp) (pen2.mono ?_)
    have : r.toNat ≤ N := by omega
    exact Nat.add_le_add_left (Nat.mul_le_mul_left _ this) _
/-! ### effects that the laws draw -/
/-- canonical, of bounded size -/
structure DrE (q : Int) (g : Pol) (m : Int) (L : Nat) (B : Nat) : Prop where
  nf : Nf q g (cf g)
  len : g.length ≤ L
  abs : ∀ t ∈ g, t.1.natAbs ≤ B
  sh : m.natAbs ≤ B
def sp__law_wide : Sp := fun vs H Q _ => ∃ (p c : Addr) (most : Int) (n : Nat), vs = [.ref p, .int most] ∧ 0 ≤ most ∧ most.natAbs < 10 ^ 90 ∧ PenAt H p c n ∧ n + 7 < 2 ^ 40 ∧ ∀ r H', r.natAbs ≤ most.natAbs + 8 → Kp p H H' → PenAt H' p c (n + 7) → Q (.int r) H'
def sp__law_wide_effect (K : PySem.W.Frag) : Sp := fun vs H Q _ => ∃ (p c : Addr) (q terms most : Int) (n : Nat), vs = [.ref p, .int q, .int terms, .int most] ∧ 2 ≤ q ∧ q ≤ 97 ∧ 0 ≤ terms ∧ terms ≤ 100 ∧ 0 ≤ most ∧ most.natAbs < 10 ^ 80 ∧ PenAt H p c n ∧ n < 2 ^ 38 ∧
  ∀ v H' g sh, Kp p H H' → PenAt H' p c (n + 8 * terms.toNat + 10) → TEff K H' v g sh → DrE q g sh terms.toNat (most.natAbs + 8) → Q v H'
def sp__law_long_effect (K : PySem.W.Frag) : Sp := fun vs H Q _ => ∃ (p c : Addr) (q many : Int) (n : Nat), vs = [.ref p, .int q, .int many] ∧ 2 ≤ q ∧ q ≤ 97 ∧ 0 ≤ many ∧ many ≤ 1000 ∧ PenAt H p c n ∧ n < 2 ^ 38 ∧
  ∀ v H' g sh, Kp p H H' → PenAt H' p c (n + 5) → TEff K H' v g sh → DrE q g sh many.toNat 4000 → Q v H'
def sp__law_any_effect (K : PySem.W.Frag) : Sp := fun vs H Q _ => ∃ (p c : Addr) (q most many : Int) (n : Nat), vs = [.ref p, .int q, .int most, .int many] ∧ 2 ≤ q ∧ q ≤ 97 ∧ 0 ≤ most ∧ most.natAbs < 10 ^ 80 ∧ 0 ≤ many ∧ many ≤ 1000 ∧ PenAt H p c n ∧ n < 2 ^ 37 ∧
  ∀ v H' g sh, Kp p H H' → PenAt H' p c (n + 60) → TEff K H' v g sh → DrE q g sh 1000 (most.natAbs + 4000) → Q v H'
end DR
namespace DR
open PySem PySem.Spec PyProof.Rows L2
theorem lpd_shaped (f : Pol) : SeqAt.shaped (.list (f.map pr)) = true := by
  obtain ⟨a, b⟩ := prs_lay f
  show (PyData.canLayAll0 (f.map pr) && decide (PyData.depthAll (f.map pr) + 1 ≤ 64)) = true
  rw [a, decide_eq_true (by omega)]
  rfl
theorem eqv_lnil (f : Pol) : PyData.eqv (.list (f.map pr)) (.list []) = decide (f = []) := by
  cases f with
  | nil => rfl
  | cons t r => rfl
section
variable {K : PySem.W.Frag} {H : Hp}
theorem Prs.erase : ∀ {xs : List V} {f : Pol} (k : Nat), Prs K H xs f → Prs K H (xs.eraseIdx k) (f.eraseIdx k)
  | _, _, _, .nil => .nil
  | _, _, 0, .cons _ t => t
  | _, _, k + 1, .cons h t => .cons h (Prs.erase k t)
end
theorem perm_erase : ∀ {f : Pol} {k : Nat} {t : Int × Int}, f[k]? = some t → (t :: f.eraseIdx k).Perm f
  | [], _, _, h => by simp at h
  | a :: r, 0, t, h => by
    have e : a = t := by simpa using h
    rw [e]
    exact List.Perm.refl _
  | a :: r, k + 1, t, h => by
    have h' : r[k]? = some t := by simpa using h
    show (t :: a :: r.eraseIdx k).Perm (a :: r)
    exact (List.Perm.swap a t _).trans ((perm_erase h').cons a)
theorem perm_step {g h f : Pol} {k : Nat} {t : Int × Int} (e : h[k]? = some t) (p : (g ++ h).Perm f) : ((g ++ [t]) ++ h.eraseIdx k).Perm f := by
  rw [List.append_assoc]
  exact ((perm_erase e).append_left g).trans p
def sp__law_shuffled (K : PySem.W.Frag) : Sp := fun vs H Q _ => ∃ (p c : Addr) (n : Nat) (v : V) (f : Pol), vs = [.ref p, v] ∧ (TPol K H v f ∨ LPol K H v f) ∧ f.length ≤ 1000 ∧ PenAt H p c n ∧ n < 2 ^ 38 ∧
  ∀ D ys g H', Kp p H H' → PenAt H' p c (n + f.length) → H D = none → H' D = some (.lst ys) → Prs K H' ys g → g.Perm f → Q (.ref D) H'
/-- the law's drawn pairs: numbers below a bound -/
def PsB (f : Pol) : Prop := ∀ t ∈ f, t.1.natAbs ≤ 10 ^ 31 ∧ t.2.natAbs ≤ 10 ^ 31
def sp__law_pairs1 (K : PySem.W.Frag) : Sp := fun vs H Q _ => ∃ (p c : Addr) (q : Int) (n : Nat), vs = [.ref p, .int q] ∧ 2 ≤ q ∧ q ≤ 97 ∧ PenAt H p c n ∧ n < 2 ^ 37 ∧
  ∀ D ys g H', Kp p H H' → PenAt H' p c (n + 100) → H' D = some (.lst ys) → Prs K H' ys g → g.length ≤ 16 → PsB g → Q (.ref D) H'
theorem kl_dp {K : PySem.W.Frag} {H : Hp} : ∀ ks : List Int, DpAll K H (ks.map V.int) (ks.map PyData.int)
  | [] => .nil
  | k :: r => .cons (.int k) (kl_dp r)
theorem kl_lay : ∀ ks : List Int, PyData.canLayAll0 (ks.map PyData.int) = true ∧ PyData.depthAll (ks.map PyData.int) = 0
  | [] => ⟨rfl, rfl⟩
  | k :: r => by
    obtain ⟨a, b⟩ := kl_lay r
    refine ⟨?_, ?_⟩
    · show ((PyData.int k).canLay0 && PyData.canLayAll0 (r.map PyData.int)) = true
      rw [a]
      rfl
    · show max (PyData.int k).depth (PyData.depthAll (r.map PyData.int)) = 0
      rw [b]
      rfl
theorem kl_shaped (ks : List Int) : SeqAt.shaped (.list (ks.map PyData.int)) = true := by
  obtain ⟨a, b⟩ := kl_lay ks
  show (PyData.canLayAll0 (ks.map PyData.int) && decide (PyData.depthAll (ks.map PyData.int) + 1 ≤ 64)) = true
  rw [a, b]
  rfl
theorem kl_eqv (ks : List Int) : PyData.eqv (.list (ks.map PyData.int)) (.list []) = ks.isEmpty := by
  cases ks <;> rfl
end DR
namespace DR
open PySem PySem.Spec PyProof.Rows L2
/-! ### tuples of any data, cut and put together -/
theorem all_fits {n k : Nat} : ∀ (ds : List PyData), (∀ d ∈ ds, Fits n k d) → PyData.showableAll ds = true ∧ PyData.hasDictAll ds = false ∧ PyData.depthAll ds ≤ k ∧ ((ds.map PyData.shown).map (·.length)).sum ≤ n * ds.length
  | [], _ => ⟨rfl, rfl, Nat.zero_le _, Nat.zero_le _⟩
  | d :: r, h => by
    have a := h d List.mem_cons_self
    obtain ⟨b1, b2, b3, b4⟩ := all_fits r fun x hx => h x (List.mem_cons_of_mem _ hx)
    refine ⟨?_, ?_, ?_, ?_⟩
    · show (d.showable && PyData.showableAll r) = true
      rw [a.sh, b1]
      rfl
    · show (d.hasDict || PyData.hasDictAll r) = false
      rw [a.nd, b2]
      rfl
    · show max d.depth (PyData.depthAll r) ≤ k
      have := a.dp
      omega
    · rw [List.map_cons, List.map_cons, List.sum_cons, List.length_cons, Nat.mul_add, Nat.mul_one]
      have := a.ln
      omega
theorem shown_map : ∀ ds : List PyData, PyData.shownAll ds = ds.map PyData.shown
  | [] => rfl
  | d :: r => by
    show d.shown :: PyData.shownAll r = _
    rw [shown_map r]
    rfl
theorem fits_tupN {n k : Nat} {ds : List PyData} (h : ∀ d ∈ ds, Fits n k d) : Fits (n * ds.length + 2 * ds.length + 3) (k + 1) (.tuple ds) := by
  obtain ⟨a, b, c, e⟩ := all_fits ds h
  refine ⟨a, b, Nat.succ_le_succ c, ?_⟩
  show (tupleText (PyData.shownAll ds)).length ≤ _
  have t := tupleText_len_le (PyData.shownAll ds)
  rw [shown_map] at t ⊢
  rw [List.length_map] at t
  omega
section
variable {K : PySem.W.Frag} {H0 H H' : Hp} {v u : V} {n m : Nat} {Q : VK}
def TV (K : PySem.W.Frag) (H0 H : Hp) (v : V) (n : Nat) : Prop := ∃ (a : Addr) (xs : List V) (ds : List PyData), v = .ref a ∧ SqT K (er H0 H) a xs ∧ DpAll K (er H0 H) xs ds ∧ (∀ d ∈ ds, Nice 25000 3 d) ∧ ds.length ≤ n
theorem TV.same (s : Same H H') (h : TV K H0 H v n) : TV K H0 H' v n := by
  obtain ⟨a, xs, ds, e, h1, h2, h3⟩ := h
  exact ⟨a, xs, ds, e, same_t (er_same s) h1, DpAll.same (er_same s) h2, h3⟩
theorem TV.kpd {p c c' : Addr} {i j : Nat} (pen0 : PenAt H0 p c i) (pen : PenAt H p c' j) (k : Kp p H H') (h : TV K H0 H v n) : TV K H0 H' v n := by
  obtain ⟨a, xs, ds, e, h1, h2, h3⟩ := h
  obtain ⟨kvs, hp⟩ := pen.dict
  obtain ⟨kvs0, hp0⟩ := pen0.dict
  have hp' : er H0 H p = some (.dK kvs) := er_of hp fun xs e => by rw [hp0] at e; cases e
  exact ⟨a, xs, ds, e, tp_t (tp_kp hp' (er_kp k)) h1, DpAll.kpd hp' (er_kp k) h2, h3⟩
theorem TV.mono (h : TV K H0 H v n) (hm : n ≤ m) : TV K H0 H v m := by
  obtain ⟨a, xs, ds, e, h1, h2, h3, h4⟩ := h
  exact ⟨a, xs, ds, e, h1, h2, h3, Nat.le_trans h4 hm⟩
theorem TV.sq (h : TV K H0 H v n) : ∃ a xs, v = .ref a ∧ SqT K H a xs ∧ xs.length ≤ n := by
  obtain ⟨a, xs, ds, e, h1, h2, _, h4⟩ := h
  exact ⟨a, xs, e, same_t (er_sub H0 H) h1, by rw [DpAll.len h2]; exact h4⟩
theorem tv_new {xs : List V} {ds : List PyData} {b : Addr} (al : Al H0 H) (nb : H b = none) (h : DpAll K (er H0 H) xs ds) (hn : ∀ d ∈ ds, Nice 25000 3 d) (hl : ds.length ≤ n) : TV K H0 (upd H b (.tup xs)) (.ref b) n :=
  ⟨b, xs, ds, rfl, same_t (er_new al nb) (SqT.of upd_same), DpAll.same (er_same (same_new nb)) h, hn, hl⟩
theorem DpAll.takeN : ∀ {xs : List V} {ds : List PyData} (k : Nat), DpAll K H xs ds → DpAll K H (xs.take k) (ds.take k)
  | _, _, 0, _ => by rw [List.take_zero, List.take_zero]; exact .nil
  | _, _, _ + 1, .nil => .nil
  | _, _, k + 1, .cons h t => .cons h (DpAll.takeN k t)
theorem DpAll.dropN : ∀ {xs : List V} {ds : List PyData} (k : Nat), DpAll K H xs ds → DpAll K H (xs.drop k) (ds.drop k)
  | _, _, 0, h => h
  | _, _, _ + 1, .nil => .nil
  | _, _, k + 1, .cons _ t => DpAll.dropN k t
theorem tv_cut {lo hi : Option Int} (al : Al H0 H) (h : TV K H0 H v n) (k : ∀ u H', Same H H' → Al H0 H' → TV K H0 H' u n → Q u H') : rSlA K v lo hi H Q := by
  obtain ⟨a, xs, ds, rfl, h1, h2, h3, h4⟩ := h
  have hl := DpAll.len h2
  refine ⟨a, xs, rfl, same_t (er_sub H0 H) h1, fun _ => k _ _ (Same.refl H) al ⟨a, xs, ds, rfl, h1, h2, h3, h4⟩, fun _ p np => ?_⟩
  refine k _ _ (same_new np) (al.same (same_new np)) (tv_new (ds := (ds.drop (HT.sIx xs.length 0 lo)).take (HT.sIx xs.length xs.length hi - HT.sIx xs.length 0 lo)) al np (DpAll.takeN _ (DpAll.dropN _ h2)) (fun d hd => h3 d (List.mem_of_mem_drop (List.mem_of_mem_take hd))) ?_)
  rw [List.length_take, List.length_drop]
  omega
theorem tv_cat (al : Al H0 H) (h : TV K H0 H v n) (h' : TV K H0 H u m) (hnm : n + m ≤ 1000) (k : ∀ w H', Same H H' → Al H0 H' → TV K H0 H' w (n + m) → Q w H') : rCatA K v u H Q := by
  obtain ⟨a, xs, ds, rfl, h1, h2, h3, h4⟩ := h
  obtain ⟨b, ys, es, rfl, g1, g2, g3, g4⟩ := h'
  have hl := DpAll.len h2
  have gl := DpAll.len g2
  refine ⟨a, b, xs, ys, rfl, rfl, same_t (er_sub H0 H) h1, same_t (er_sub H0 H) g1, sl_of (by omega), fun _ => k _ _ (Same.refl H) al ⟨b, ys, es, rfl, g1, g2, g3, by omega⟩, fun _ _ => k _ _ (Same.refl H) al ⟨a, xs, ds, rfl, h1, h2, h3, by omega⟩, fun _ _ p np => ?_⟩
  refine k _ _ (same_new np) (al.same (same_new np)) (tv_new (ds := ds ++ es) al np (DpAll.append h2 g2) (fun d hd => ?_) (by rw [List.length_append]; omega))
  rcases List.mem_append.mp hd with z | z
  · exact h3 d z
  · exact g3 d z
theorem TV.good (h : TV K H0 H v n) (hn : n ≤ 35) : Good K (er H0 H) v := by
  obtain ⟨a, xs, ds, rfl, h1, h2, h3, h4⟩ := h
  refine ⟨.tuple ds, .inl (.tup h1 h2), (fits_tupN (n := 25000) (k := 3) fun d hd => (h3 d hd).f).shw ?_ (by decide) (show ds.length ≤ 1000000 by omega) fun es e x hx => ?_⟩
  · have : 25000 * ds.length ≤ 25000 * 35 := Nat.mul_le_mul_left _ (by omega)
    omega
  · cases PyData.tuple.inj e
    exact (h3 x hx).tl
theorem tv_pol {g : Pol} (hs : ∀ t ∈ g, t.1.natAbs < 10 ^ 100 ∧ t.2.natAbs < 10 ^ 100) (h : TPol K H v g) (hl : g.length ≤ n) : TV K H H v n := by
  obtain ⟨a, xs, rfl, h1, h2⟩ := h
  refine ⟨a, xs, g.map pr, rfl, tp_t (er_tp H) h1, (Prs.tp (er_tp H) h2).dp, fun d hd => ?_, by rw [List.length_map]; exact hl⟩
  obtain ⟨t, ht, rfl⟩ := List.mem_map.mp hd
  obtain ⟨b1, b2⟩ := hs t ht
  exact (nice_2 (nice_int b1) (nice_int b2)).up (by decide) (by decide)
end
def sp__law_changed1 (K : PySem.W.Frag) : Sp := fun vs H Q _ => ∃ (p c : Addr) (q : Int) (e : V) (g : Pol) (n : Nat), vs = [.ref p, .int q, e] ∧ 2 ≤ q ∧ q ≤ 97 ∧ TPol K H e g ∧ 0 < g.length ∧ g.length ≤ 16 ∧ (∀ t ∈ g, t.1.natAbs < 10 ^ 90 ∧ t.2.natAbs < 10 ^ 90) ∧ PenAt H p c n ∧ n < 2 ^ 38 ∧ ∀ v H', Kp p H H' → PenAt H' p c (n + 4) → Good K (er H H') v → Q v H'
def FN (n k : Nat) (K : PySem.W.Frag) (H : Hp) (v : V) : Prop := ∃ d, Dp K H v d ∧ Nice n k d
section
variable {K : PySem.W.Frag} {H0 H H' : Hp} {v w x : V} {n k : Nat} {b : Addr}
theorem FN.same (e : Same H H') (h : FN n k K H v) : FN n k K H' v := h.elim fun d z => ⟨d, Dp.same e z.1, z.2⟩
theorem FN.kpd {p c c' : Addr} {i j : Nat} (pen0 : PenAt H0 p c i) (pen : PenAt H p c' j) (kp : Kp p H H') (h : FN n k K (er H0 H) v) : FN n k K (er H0 H') v := h.elim fun d z => by
  obtain ⟨kvs, hp⟩ := pen.dict
  obtain ⟨kvs0, hp0⟩ := pen0.dict
  exact ⟨d, Dp.kpd (er_of hp fun xs e => by rw [hp0] at e; cases e) (er_kp kp) z.1, z.2⟩
theorem FN.up {n' k' : Nat} (h : FN n k K H v) (a : n ≤ n') (c : k ≤ k') : FN n' k' K H v := h.elim fun d z => ⟨d, z.1, z.2.up a c⟩
theorem fn_int {i : Int} (h : i.natAbs < 10 ^ 100) : FN 101 0 K H (.int i) := ⟨_, .int i, nice_int h⟩
theorem fn_t1 (al : Al H0 H) (nb : H b = none) (h : FN n k K (er H0 H) v) : FN (n + 5) (k + 1) K (er H0 (upd H b (.tup [v]))) (.ref b) := h.elim fun d z => ⟨_, Dp.same (er_new al nb) (dn_tup (er_none nb) _ _ (.cons (Dp.same (same_new (er_none nb)) z.1) .nil)), nice_1 z.2⟩
theorem fn_t2 {n' k' : Nat} (al : Al H0 H) (nb : H b = none) (h : FN n k K (er H0 H) v) (h' : FN n' k' K (er H0 H) w) : FN (n + n' + 7) (max k k' + 1) K (er H0 (upd H b (.tup [v, w]))) (.ref b) := h.elim fun d z => h'.elim fun d' z' => ⟨_, Dp.same (er_new al nb) (dn_tup (er_none nb) _ _ (.cons (Dp.same (same_new (er_none nb)) z.1) (.cons (Dp.same (same_new (er_none nb)) z'.1) .nil))), nice_2 z.2 z'.2⟩
theorem fn_l2 {n' k' : Nat} (al : Al H0 H) (nb : H b = none) (h : FN n k K (er H0 H) v) (h' : FN n' k' K (er H0 H) w) : FN (n + n' + 7) (max k k' + 1) K (er H0 (upd H b (.lst [v, w]))) (.ref b) := h.elim fun d z => h'.elim fun d' z' => ⟨_, Dp.same (er_new al nb) (dn_lst (er_none nb) _ _ (.cons (Dp.same (same_new (er_none nb)) z.1) (.cons (Dp.same (same_new (er_none nb)) z'.1) .nil))), nice_l2 z.2 z'.2⟩
theorem fn_t3 {n' k' n2 k2 : Nat} (al : Al H0 H) (nb : H b = none) (h : FN n k K (er H0 H) v) (h' : FN n' k' K (er H0 H) w) (h2 : FN n2 k2 K (er H0 H) x) : FN (n + n' + n2 + 9) (max k (max k' k2) + 1) K (er H0 (upd H b (.tup [v, w, x]))) (.ref b) := h.elim fun d z => h'.elim fun d' z' => h2.elim fun d2 z2 => ⟨_, Dp.same (er_new al nb) (dn_tup (er_none nb) _ _ (.cons (Dp.same (same_new (er_none nb)) z.1) (.cons (Dp.same (same_new (er_none nb)) z'.1) (.cons (Dp.same (same_new (er_none nb)) z2.1) .nil)))), nice_3 z.2 z'.2 z2.2⟩
theorem tv_one (al : Al H0 H) (nb : H b = none) (h : FN 25000 3 K (er H0 H) v) : TV K H0 (upd H b (.tup [v])) (.ref b) 1 := h.elim fun d z => tv_new al nb (.cons z.1 .nil) (fun d' hd => by rw [List.mem_singleton.mp hd]; exact z.2) (Nat.le_refl _)
theorem fits_listN {m j : Nat} {ds : List PyData} (h : ∀ d ∈ ds, Fits m j d) : Fits (m * ds.length + 2 * ds.length + 3) (j + 1) (.list ds) := by
  obtain ⟨a, b, c, e⟩ := all_fits ds h
  refine ⟨a, b, Nat.succ_le_succ c, ?_⟩
  show (listText (PyData.shownAll ds)).length ≤ _
  have t := listText_len_le (PyData.shownAll ds)
  rw [shown_map] at t ⊢
  rw [List.length_map] at t
  omega
theorem tv_list (al : Al H0 H) (h : TV K H0 H v n) (hn : n ≤ 35) : ∃ a xs, v = .ref a ∧ SqT K H a xs ∧ ∀ l, H l = none → Good K (er H0 (upd H l (.lst xs))) (.ref l) := by
  obtain ⟨a, xs, ds, rfl, h1, h2, h3, h4⟩ := h
  refine ⟨a, xs, rfl, same_t (er_sub H0 H) h1, fun l nl => ⟨.list ds, .inl (Dp.same (er_new al nl) (dn_lst (er_none nl) _ _ (DpAll.same (same_new (er_none nl)) h2))), (fits_listN (m := 25000) (j := 3) fun d hd => (h3 d hd).f).shw ?_ (by decide) (Nat.zero_le _) fun es e => by cases e⟩⟩
  have : 25000 * ds.length ≤ 25000 * 35 := Nat.mul_le_mul_left _ (by omega)
  omega
theorem tv_rev (al : Al H0 H) (h : TV K H0 H v n) : ∃ a xs, v = .ref a ∧ SqT K H a xs ∧ ∀ b, H b = none → TV K H0 (upd H b (.tup xs.reverse)) (.ref b) n := by
  obtain ⟨a, xs, ds, rfl, h1, h2, h3, h4⟩ := h
  exact ⟨a, xs, rfl, same_t (er_sub H0 H) h1, fun b nb => tv_new (ds := ds.reverse) al nb (DpAll.rev h2) (fun d hd => h3 d (List.mem_reverse.mp hd)) (by rw [List.length_reverse]; exact h4)⟩
end
end DR
namespace DR
open PySem PySem.Spec PyProof.Rows L2
def topS (i : Nat) : Stmt := PySem.Challenge.pw_dialroad_k01_normalized_polynomials.main.body.getD i (.Pass ⟨0, 0, 0, 0⟩)
abbrev s_is_whole : Stmt := topS 1
abbrev s_from_sums : Stmt := topS 3
abbrev s_normalize : Stmt := topS 4
abbrev s_is_term : Stmt := topS 5
abbrev s_is_polynomial : Stmt := topS 6
abbrev s__law_pen : Stmt := topS 8
abbrev s__law_draw : Stmt := topS 9
abbrev s__law_pick : Stmt := topS 10
abbrev s__law_shuffled : Stmt := topS 11
abbrev s__law_prime : Stmt := topS 12
abbrev s__law_integer : Stmt := topS 13
abbrev s__law_normal : Stmt := topS 14
abbrev s__law_odd_value : Stmt := topS 15
abbrev s__law_pairs : Stmt := topS 16
abbrev s__law_is_normal : Stmt := topS 17
abbrev s__law_changed : Stmt := topS 18
abbrev s_law : Stmt := topS 19
/-- the built-in names that the texts use are still the built-in ones -/
structure Blt (mg : Str → Option Value) : Prop where
  tuple : mg "tuple" = none
  sorted : mg "sorted" = none
  range : mg "range" = none
  list : mg "list" = none
  len : mg "len" = none
  abs : mg "abs" = none
  repr : mg "repr" = none
  int : mg "int" = none
  bool : mg "bool" = none
  dict : mg "dict" = none
  min : mg "min" = none
  max : mg "max" = none
  zip : mg "zip" = none
  all : mg "all" = none
  isinstance : mg "isinstance" = none
  sum : mg "sum" = none
  any : mg "any" = none
  str : mg "str" = none
  set : mg "set" = none
section
variable {P : Program} {w : World} {K : PySem.W.Frag} {mg : Str → Option Value} {base : Heap}
theorem sc_is_whole : FnScope ["value"] ["value"] (defScope s_is_whole) := ⟨rfl, rfl, rfl, by decide +kernel, rfl, by decide +kernel, by decide +kernel⟩
theorem ok_is_whole {f : Addr} {fd : FuncData} (F : Fun K "is_whole" "is_whole" s_is_whole f fd) (B : Blt mg) : FnOk P w K mg base CX0 1 f fd ["value"] (sp_is_whole K) := by
  refine F.ok sc_is_whole (fun vs H Q E h => ?_) (fun cdv A outer s H vs Q E hr h => ?_)
  · obtain ⟨v, d, rfl, _⟩ := h
    rfl
  · obtain ⟨v, d, rfl, hd, k⟩ := h
    refine ⟨_, (pss_one (ps_ret (pe_and (pe_callB call_isi (by rfl) B.isinstance (by decide +kernel) (pa_cons (pv 0) (pa_cons (pe_bltn (v := .ty "int") (u := .type "int") (by rfl) B.int (by decide +kernel) rfl) pa_nil))) (pe_one (pe_not (pe_callB call_isi (by rfl) B.isinstance (by decide +kernel) (pa_cons (pv 0) (pa_cons (pe_bltn (v := .ty "bool") (u := .type "bool") (by rfl) B.bool (by decide +kernel) rfl) pa_nil)))))))), ?_⟩
    refine ⟨_, rfl, v, .ty "int", _, _, _, rfl, .ty "int", DpX.ty hd, kit_int d, _, rfl, ?_⟩
    refine ite2 (fun h => ?_) (fun h => ?_)
    · refine ⟨_, rfl, v, .ty "bool", _, _, _, rfl, .ty "bool", DpX.ty hd, kit_bool d, _, rfl, ?_⟩
      have e : (!isBool d) = isWhole d := by
        cases d <;> first | rfl | cases h
      rw [e]
      exact k
    · have e : isWhole d = false := by
        cases d <;> first | rfl | exact absurd rfl h
      rw [e] at k
      exact k
theorem sc_from_sums : FnScope ["prime", "sums", "exponent"] ["prime", "sums"] (defScope s_from_sums) := ⟨rfl, rfl, rfl, by decide +kernel, rfl, by decide +kernel, by decide +kernel⟩
theorem ok_from_sums {f : Addr} {fd : FuncData} (F : Fun K "from_sums" "from_sums" s_from_sums f fd) (B : Blt mg) : FnOk P w K mg base CX0 1 f fd ["prime", "sums"] (sp_from_sums K) := by
  refine F.ok sc_from_sums (fun vs H Q E h => ?_) (fun cdv A outer s H vs Q E hr h => ?_)
  · obtain ⟨p, d, m, rfl, _⟩ := h
    rfl
  · obtain ⟨p, d, m, rfl, hp, hd, hn, hl, k⟩ := h
    have hu := hu_of hr
    have nd := sc_from_sums.nd
    refine ⟨_, (pss_one (ps_ret (pe_callTy call_tuple_of (by rfl) B.tuple (by decide +kernel) (pa_cons (pe_lc (own := [("exponent", 2)]) (by rfl) nd (pi_list (pe_callB (call_sortedDA rfl) (by rfl) B.sorted (by decide +kernel) (pa_cons (pv 1) pa_nil))) (blkOk_by (N := ["prime", "sums", "exponent"]) (sc := defScope s_from_sums) (own := [("exponent", 2)]) (by decide +kernel)) (fun _ _ _ _ _ => (pg_name (i := 2) nd rfl (.inl rfl))) (fun _ _ _ _ _ => (pts_one (pt_cmpR op_ne (pe_op op_mod (pe_dget hu (pv 1) (pv 2) (fun _ _ => rfl)) (pv 0)) pe_int (nomark _)))) (fun _ _ _ _ _ => (pe_tup (pa_cons (pv 2) (pa_cons (pe_op op_mod (pe_dget hu (pv 1) (pv 2) (fun _ _ => rfl)) (pv 0)) pa_nil))))) pa_nil)))), ?_⟩
    refine ⟨_, rfl, d, kvOf m, m.map (·.1), rfl, .inl hd, kv_keys m, fun ys a perm srt na => ?_⟩
    refine ⟨a, rfl, ⟨_, SqL.of upd_same⟩, fun D nD => ?_⟩
    have sa : Same H (upd H a (.lst (ys.map V.int))) := same_new na
    have hl' : ys.length ≤ 1000000 := by
      rw [perm.length_eq, List.length_map]
      exact hl
    refine lc_list (K := K) (a := a) (xs := ys.map V.int) (fun i H2 => Grow K (upd H a (.lst (ys.map V.int))) D (kept p (cf m) (ys.take i)) H2) (.start nD) ?_ ?_ ?_
    · exact fun i H2 _ h => SqL.of (h.same _ _ upd_same)
    · intro i x H2 hi g
      obtain ⟨e, he, rfl⟩ := ints_get hi
      have h2d := g.same _ _ (sa _ _ hd)
      have hm : e ∈ m.map (·.1) := perm.mem_iff.mp (List.mem_of_getElem? he)
      have hlen : (kept p (cf m) (ys.take i)).length < 1000000 := by
        have h1 := kept_len p (cf m) (ys.take i)
        have h2 : i < ys.length := (List.getElem?_eq_some_iff.mp he).1
        rw [List.length_take] at h1
        omega
      refine ⟨rfl, _, rfl, _, rfl, d, _, rfl, dget_int h2d hn hm, _, rfl, _, _, rfl, rfl, hp, rfl, _, rfl, ?_⟩
      show if (!decide (V.int (cf m e % p) = V.int 0)) = true then _ else _
      rw [take_snoc he, kept_snoc]
      by_cases z : cf m e % p = 0
      · rw [z, if_neg (by simp), if_neg (by simp), List.append_nil]
        exact g
      · have zz : (!decide (V.int (cf m e % p) = V.int 0)) = true := by simp [z]
        rw [zz]
        refine iteT ?_
        refine ⟨_, rfl, _, rfl, _, rfl, d, _, rfl, dget_int h2d hn hm, _, rfl, _, _, rfl, rfl, hp, sl_of (show 2 ≤ 1000000 by decide), fun q nq => ?_⟩
        obtain ⟨acc, h1, h2, h3⟩ := g.step nD nq e (cf m e % p) hlen
        rw [if_pos z]
        exact ⟨acc, h1, h2, h3⟩
    · rintro H2 ⟨s2, xs, h2D, hP⟩
      rw [List.length_map, List.take_length] at hP
      refine ⟨D, xs, rfl, .inl ⟨SqL.of h2D, fun t nt => ?_⟩⟩
      refine k _ _ (kept p (cf m) ys) ((sa.trans s2).trans (same_new nt)) ⟨t, xs, rfl, SqT.of upd_same, Prs.tp (tp_new nt) hP⟩ (kept_nf hp srt (perm.nodup_iff.mpr hn) fun e he => ?_)
      rw [cf_out (fun z => he (perm.mem_iff.mpr z))]
      rfl
theorem sc_normalize : FnScope ["prime", "pairs", "sums", "exponent", "coefficient"] ["prime", "pairs"] (defScope s_normalize) := ⟨rfl, rfl, rfl, by decide +kernel, rfl, by decide +kernel, by decide +kernel⟩
theorem ok_normalize {f : Addr} {fd : FuncData} (F : Fun K "normalize" "normalize" s_normalize f fd) (B : Blt mg) (C_from_sums : Cal P w K mg base 1 "from_sums" (sp_from_sums K)) : FnOk P w K mg base CX0 2 f fd ["prime", "pairs"] (sp_normalize K) := by
  refine F.ok sc_normalize (fun vs H Q E h => ?_) (fun cdv A outer s H vs Q E hr h => ?_)
  · obtain ⟨p, v, ps, rfl, _⟩ := h
    rfl
  · obtain ⟨p, v, ps, rfl, hp, hv, hl, k⟩ := h
    have hu := hu_of hr
    have nd := sc_normalize.nd
    rcases hv with ⟨a, xs, rfl, hs, hP⟩ | ⟨a, xs, rfl, hs, hP⟩
    · refine ⟨_, (pss_cons (ps_set (i := 2) nd rfl (.inl rfl) pe_dnewK)
        (pss_cons (ps_for PassesOwn.never rfl (pi_tup (pv 1)) (pg_tup rfl (pgs_cons (pg_name (i := 3) nd rfl (.inl rfl)) (pgs_cons (pg_name (i := 4) nd rfl (.inl rfl)) pgs_nil)))
          (pss_one (ps_dput hu (pv 2) (pv 3) (pe_op op_add (pe_dget2 hu (pv 2) (pv 3) pe_int ⟨rfl, rfl, rfl, rfl⟩) (pv 4)) rfl)))
        (pss_one (ps_ret (pe_c C_from_sums hr (by decide) (by rfl) (pa_cons (pv 0) (pa_cons (pv 2) pa_nil))))))), ?_⟩
      intro d nd0
      have s1 : Same H (upd H d (.dK [])) := same_new nd0
      refine ⟨_, rfl, a, rfl, ⟨_, same_t s1 hs⟩, for_tup (K := K) (a := a) (xs := xs) (fun i σ H2 => ∃ (m : Pol) (y z : Option V), σ = [some (.int p), some (.ref a), some (.ref d), y, z] ∧ Same H H2 ∧ H2 d = some (.dK (kvOf m)) ∧ (m.map (·.1)).Nodup ∧ m.length ≤ i ∧ ∀ e, cf m e = cf (ps.take i) e) ?_ ?_ ?_ ?_⟩
      · exact ⟨[], none, none, rfl, s1, upd_same, List.nodup_nil, Nat.le_refl _, fun _ => rfl⟩
      · rintro i σ H2 _ ⟨m, y, z, _, s2, _⟩
        exact same_t s2 hs
      · rintro i x σ H2 hi ⟨m, y, z, rfl, s2, hd, hn, hm, hc⟩
        obtain ⟨t, ht, b, rfl, hb⟩ := hP.get hi
        have hlt : i < ps.length := (List.getElem?_eq_some_iff.mp ht).1
        refine ⟨b, _, rfl, same_t s2 hb, rfl, _, _, rfl, _, _, rfl, rfl, ?_⟩
        refine ⟨_, rfl, d, rfl, .inl ⟨_, .inl hd⟩, _, rfl, _, dget_any t.1 hd, _, rfl, cf m t.1, t.2, kv_getD m t.1 hn, rfl, _, rfl, _, rfl, d, _, rfl, dput_int t.1 (cf m t.1 + t.2) hd hn (by omega), ?_⟩
        refine ⟨put m t.1 (cf m t.1 + t.2), _, _, rfl, same_mut s2 nd0, upd_same, put_nodup _ _ _ hn, ?_, fun e => ?_⟩
        · have := put_len m t.1 (cf m t.1 + t.2)
          omega
        · rw [put_cf _ _ _ _ hn, take_snoc ht, cf_append, cf_cons, cf_nil, ← hc]
          by_cases q : e = t.1
          · rw [if_pos q, if_pos q.symm, q]
            omega
          · rw [if_neg q, if_neg (fun z => q z.symm)]
            omega
      · rintro σ H2 ⟨m, y, z, rfl, s2, hd, hn, hm, hc⟩
        have hlen := hP.len
        rw [hlen, List.take_length] at hc
        refine ⟨_, rfl, _, rfl, p, d, m, rfl, hp, hd, hn, by omega, fun u H3 g s3 hg hN => k u H3 g (s2.trans s3) hg (hN.to fun e => by rw [hc])⟩
    · refine ⟨_, (pss_cons (ps_set (i := 2) nd rfl (.inl rfl) pe_dnewK)
        (pss_cons (ps_for PassesOwn.never rfl (pi_list (pv 1)) (pg_tup rfl (pgs_cons (pg_name (i := 3) nd rfl (.inl rfl)) (pgs_cons (pg_name (i := 4) nd rfl (.inl rfl)) pgs_nil)))
          (pss_one (ps_dput hu (pv 2) (pv 3) (pe_op op_add (pe_dget2 hu (pv 2) (pv 3) pe_int ⟨rfl, rfl, rfl, rfl⟩) (pv 4)) rfl)))
        (pss_one (ps_ret (pe_c C_from_sums hr (by decide) (by rfl) (pa_cons (pv 0) (pa_cons (pv 2) pa_nil))))))), ?_⟩
      intro d nd0
      have s1 : Same H (upd H d (.dK [])) := same_new nd0
      refine ⟨_, rfl, a, rfl, ⟨_, same_l s1 hs⟩, for_list (K := K) (a := a) (xs := xs) (fun i σ H2 => ∃ (m : Pol) (y z : Option V), σ = [some (.int p), some (.ref a), some (.ref d), y, z] ∧ Same H H2 ∧ H2 d = some (.dK (kvOf m)) ∧ (m.map (·.1)).Nodup ∧ m.length ≤ i ∧ ∀ e, cf m e = cf (ps.take i) e) ?_ ?_ ?_ ?_⟩
      · exact ⟨[], none, none, rfl, s1, upd_same, List.nodup_nil, Nat.le_refl _, fun _ => rfl⟩
      · rintro i σ H2 _ ⟨m, y, z, _, s2, _⟩
        exact same_l s2 hs
      · rintro i x σ H2 hi ⟨m, y, z, rfl, s2, hd, hn, hm, hc⟩
        obtain ⟨t, ht, b, rfl, hb⟩ := hP.get hi
        have hlt : i < ps.length := (List.getElem?_eq_some_iff.mp ht).1
        refine ⟨b, _, rfl, same_t s2 hb, rfl, _, _, rfl, _, _, rfl, rfl, ?_⟩
        refine ⟨_, rfl, d, rfl, .inl ⟨_, .inl hd⟩, _, rfl, _, dget_any t.1 hd, _, rfl, cf m t.1, t.2, kv_getD m t.1 hn, rfl, _, rfl, _, rfl, d, _, rfl, dput_int t.1 (cf m t.1 + t.2) hd hn (by omega), ?_⟩
        refine ⟨put m t.1 (cf m t.1 + t.2), _, _, rfl, same_mut s2 nd0, upd_same, put_nodup _ _ _ hn, ?_, fun e => ?_⟩
        · have := put_len m t.1 (cf m t.1 + t.2)
          omega
        · rw [put_cf _ _ _ _ hn, take_snoc ht, cf_append, cf_cons, cf_nil, ← hc]
          by_cases q : e = t.1
          · rw [if_pos q, if_pos q.symm, q]
            omega
          · rw [if_neg q, if_neg (fun z => q z.symm)]
            omega
      · rintro σ H2 ⟨m, y, z, rfl, s2, hd, hn, hm, hc⟩
        have hlen := hP.len
        rw [hlen, List.take_length] at hc
        refine ⟨_, rfl, _, rfl, p, d, m, rfl, hp, hd, hn, by omega, fun u H3 g s3 hg hN => k u H3 g (s2.trans s3) hg (hN.to fun e => by rw [hc])⟩
theorem sc_is_term : FnScope ["prime", "value", "exponent", "coefficient"] ["prime", "value"] (defScope s_is_term) := ⟨rfl, rfl, rfl, by decide +kernel, rfl, by decide +kernel, by decide +kernel⟩
theorem term_two {p : Int} {x y : PyData} (h : isWhole x = false ∨ isWhole y = false) : isTerm p (.tuple [x, y]) = false := by
  cases x <;> cases y <;> first | rfl | (rcases h with h | h <;> cases h)
theorem term_len {p : Int} {ds : List PyData} (h : ds.length ≠ 2) : isTerm p (.tuple ds) = false := by
  match ds with
  | [] => rfl
  | [x] => cases x <;> rfl
  | [x, y] => exact absurd rfl h
  | x :: y :: z :: r => cases x <;> cases y <;> rfl
theorem ok_is_term {f : Addr} {fd : FuncData} (F : Fun K "is_term" "is_term" s_is_term f fd) (B : Blt mg) (C_is_whole : Cal P w K mg base 1 "is_whole" (sp_is_whole K)) : FnOk P w K mg base CX0 2 f fd ["prime", "value"] (sp_is_term K) := by
  refine F.ok sc_is_term (fun vs H Q E h => ?_) (fun cdv A outer s H vs Q E hr h => ?_)
  · obtain ⟨p, v, d, rfl, _⟩ := h
    rfl
  · obtain ⟨p, v, d, rfl, hd, k⟩ := h
    have nd := sc_is_term.nd
    refine ⟨_, (pss_cons (ps_if (PW.pt (pw_or (pt_not (pt_val (pe_callB call_isi (by rfl) B.isinstance (by decide +kernel) (pa_cons (pv 1) (pa_cons (pe_bltn (v := .ty "tuple") (u := .type "tuple") (by rfl) B.tuple (by decide +kernel) rfl) pa_nil))))) (pw_or1 (pt_cmpR op_ne (pe_callB call_len_seq (by rfl) B.len (by decide +kernel) (pa_cons (pv 1) pa_nil)) pe_int (nomark _)))))
      (pss_one (ps_ret pe_bl))
      pss_nil)
    (pss_cons (ps_asg (pv 1) (pg_tup rfl (pgs_cons (pg_name (i := 2) nd rfl (.inl rfl)) (pgs_cons (pg_name (i := 3) nd rfl (.inl rfl)) pgs_nil))))
    (pss_one (ps_ret (pe_and (pe_c C_is_whole hr (by decide) (by rfl) (pa_cons (pv 2) pa_nil)) (pe_and (pe_c C_is_whole hr (by decide) (by rfl) (pa_cons (pv 3) pa_nil)) (pe_one (pe_chain op_le op_lt pe_int (pv 3) (pv 0))))))))), ?_⟩
    refine ⟨_, rfl, v, .ty "tuple", _, _, _, rfl, .ty "tuple", Dp.ty hd, kit_tuple d, _, rfl, ?_⟩
    cases ht : isTup d with
    | false =>
      refine iteT ?_
      refine iteT ?_
      have e : isTerm p d = false := by
        cases d <;> first | rfl | cases ht
      rw [e] at k
      exact k
    | true =>
      refine iteF ?_
      obtain ⟨ds, rfl⟩ := isTup_inv ht
      obtain ⟨a, xs, rfl, hs, ha⟩ := Dp.tup_inv hd
      refine ⟨_, rfl, a, xs, rfl, .inr hs, rfl, _, rfl, ?_⟩
      by_cases hl : ds.length = 2
      · have hx : xs.length = 2 := by rw [DpAll.len ha, hl]
        refine iteNS (by rw [hx]; rfl) ?_
        match ds, xs, ha, hl, hx with
        | [x, y], [vx, vy], .cons hvx (.cons hvy .nil), _, _ =>
          refine ⟨_, rfl, a, _, rfl, hs, rfl, _, _, rfl, _, _, rfl, rfl, ?_⟩
          refine ⟨_, rfl, vx, x, rfl, .inl hvx, _, rfl, ?_⟩
          cases wx : isWhole x with
          | false =>
            refine iteF ?_
            rw [term_two (.inl wx)] at k
            exact k
          | true =>
            refine iteT ?_
            refine ⟨_, rfl, vy, y, rfl, .inl hvy, _, rfl, ?_⟩
            cases wy : isWhole y with
            | false =>
              refine iteF ?_
              rw [term_two (.inr wy)] at k
              exact k
            | true =>
              refine iteT ?_
              obtain ⟨i, rfl⟩ := isWhole_inv wx
              obtain ⟨c, rfl⟩ := isWhole_inv wy
              obtain rfl := Dp.int_inv hvx
              obtain rfl := Dp.int_inv hvy
              refine ⟨_, rfl, 1, c, rfl, rfl, _, rfl, ?_⟩
              have ek : isTerm p (.tuple [.int i, .int c]) = (decide (1 ≤ c) && decide (c < p)) := rfl
              rw [ek] at k
              refine ite2 (fun h => ?_) (fun h => ?_)
              · refine ⟨_, rfl, c, p, rfl, rfl, ?_⟩
                rw [h, Bool.true_and] at k
                exact k
              · rw [Bool.eq_false_iff.mpr h, Bool.false_and] at k
                exact k
      · have hx : ¬ xs.length = 2 := by rw [DpAll.len ha]; exact hl
        have e : (!decide (V.int (xs.length : Int) = V.int 2)) = true := by
          rw [decide_eq_false]
          · rfl
          · intro z
            injection z with z
            omega
        rw [e]
        refine iteT ?_
        rw [term_len hl] at k
        exact k
theorem sc_is_polynomial : FnScope ["prime", "value", "term", "following"] ["prime", "value"] (defScope s_is_polynomial) := ⟨rfl, rfl, rfl, by decide +kernel, rfl, by decide +kernel, by decide +kernel⟩
theorem ok_is_polynomial {f : Addr} {fd : FuncData} (F : Fun K "is_polynomial" "is_polynomial" s_is_polynomial f fd) (B : Blt mg) (C_is_term : Cal P w K mg base 2 "is_term" (sp_is_term K)) : FnOk P w K mg base CX0 3 f fd ["prime", "value"] (sp_is_polynomial K) := by
  refine F.ok sc_is_polynomial (fun vs H Q E h => ?_) (fun cdv A outer s H vs Q E hr h => ?_)
  · obtain ⟨p, v, d, rfl, _⟩ := h
    rfl
  · obtain ⟨p, v, d, rfl, hd, hlen, k⟩ := h
    have nd := sc_is_polynomial.nd
    refine ⟨_, (pss_cons (ps_if (pt_not (pt_val (pe_callB call_isi (by rfl) B.isinstance (by decide +kernel) (pa_cons (pv 1) (pa_cons (pe_bltn (v := .ty "tuple") (u := .type "tuple") (by rfl) B.tuple (by decide +kernel) rfl) pa_nil)))))
      (pss_one (ps_ret pe_bl))
      pss_nil)
    (pss_cons (ps_if (pt_not (pt_val (pe_callB (cr_all rfl) (by rfl) B.all (by decide +kernel) (pa_cons (pe_lc (own := [("term", 2)]) (by rfl) nd (pi_tup (pv 1)) (blkOk_by (N := ["prime", "value", "term", "following"]) (sc := defScope s_is_polynomial) (own := [("term", 2)]) (by decide +kernel)) (fun _ _ _ _ _ => (pg_name (i := 2) nd rfl (.inl rfl))) (fun _ _ _ _ _ => pts_nil) (fun _ _ _ _ _ => (pe_c C_is_term hr (by decide) (by rfl) (pa_cons (pv 0) (pa_cons (pv 2) pa_nil))))) pa_nil))))
      (pss_one (ps_ret pe_bl))
      pss_nil)
    (pss_one (ps_ret (pe_callB (cr_all rfl) (by rfl) B.all (by decide +kernel) (pa_cons (pe_lc (own := [("term", 2), ("following", 3)]) (g := gTup K 2 (gCons (gName 2) (gCons (gName 3) gNil))) (te := tOp (rI0 fun i j => V.bl (decide (i < j))) (tOp (rIxT K) (tVar 2) (tC (.int 0))) (tOp (rIxT K) (tVar 3) (tC (.int 0)))) (by rfl) nd (RZ.pi_zipA (by rfl) B.zip (pa_cons (pv 1) (pa_cons (pe_slice sl_tupA (pv 1) (po_some pe_int) po_none) pa_nil))) (blkOk_by (N := ["prime", "value", "term", "following"]) (sc := defScope s_is_polynomial) (own := [("term", 2), ("following", 3)]) (by decide +kernel)) (fun _ _ _ _ _ => (pg_tup rfl (pgs_cons (pg_name (i := 2) nd rfl (.inl rfl) (.inr rfl)) (pgs_cons (pg_name (i := 3) nd rfl (.inl rfl) (.inr rfl)) pgs_nil)))) (fun _ _ _ _ _ => pts_nil) (fun _ _ _ _ _ => (pe_cmpR op_lt (pe_ix ix_tup (pv 2) pe_int (fun _ _ => rfl)) (pe_ix ix_tup (pv 3) pe_int (fun _ _ => rfl)) (nomark _)))) pa_nil)))))), ?_⟩
    refine ⟨_, rfl, v, .ty "tuple", _, _, _, rfl, .ty "tuple", DpX.ty hd, kit_tuple d, _, rfl, ?_⟩
    cases ht : isTup d with
    | false =>
      refine iteT ?_
      have e : isPoly p d = false := by
        cases d <;> first | rfl | cases ht
      rw [e] at k
      exact k H (Same.refl H)
    | true =>
      refine iteF ?_
      obtain ⟨ds, rfl⟩ := isTup_inv ht
      have hl := hlen ds rfl
      have hd' : Dp K H v (.tuple ds) := hd.elim id fun ⟨_, _, _, e⟩ => by cases e
      obtain ⟨a, xs, rfl, hs, ha⟩ := Dp.tup_inv hd'
      have ek : isPoly p (.tuple ds) = (ds.all (isTerm p) && ascD ds) := rfl
      rw [ek] at k
      dsimp only [tNext, tSeq, tIfS, tNot, tB, tTest, tCB, tCons, tNil]
      refine lcBool (isTerm p) rfl hs ha hl (fun _ => rfl) (fun x d H2 s2 hx R r => ⟨_, rfl, _, rfl, p, x, d, rfl, hx, r⟩) fun D H2 s2 h2 => ?_
      refine ⟨D, ds.map (isTerm p), rfl, SqL.of h2, _, rfl, ?_⟩
      have eall : (ds.map (isTerm p)).all id = ds.all (isTerm p) := by
        rw [List.all_map]
        rfl
      rw [eall]
      cases hall : ds.all (isTerm p) with
      | false =>
        rw [if_pos (by rfl)]
        rw [hall, Bool.false_and] at k
        exact k H2 s2
      | true =>
        rw [if_neg (by decide)]
        rw [hall, Bool.true_and] at k
        have hterm : ∀ d ∈ ds, ∃ e c, d = .tuple [.int e, .int c] := fun d hd => by
          obtain ⟨e, c, h, _⟩ := isTerm_inv (List.all_eq_true.mp hall d hd)
          exact ⟨e, c, h⟩
        have he : ∀ x y d d' H3, Same H2 H3 → d ∈ ds → d' ∈ ds → Dp K H3 x d → Dp K H3 y d' → ∀ R : VK, R (.bl (decide (expo d < expo d'))) H3 → tOp (rI0 fun i j => V.bl (decide (i < j))) (tOp (rIxT K) (tVar 2) (tC (.int 0))) (tOp (rIxT K) (tVar 3) (tC (.int 0))) (((wipe (L2.start ["prime", "value", "term", "following"] [V.int p, V.ref a]) [2, 3]).set 2 (some x)).set 3 (some y)) H3 R := by
          intro x y d d' H3 s3 hd hd' hx hy R r
          obtain ⟨e1, c1, rfl⟩ := hterm d hd
          obtain ⟨e2, c2, rfl⟩ := hterm d' hd'
          obtain ⟨ax, rfl, hsx⟩ := Dp.pair_inv hx
          obtain ⟨ay, rfl, hsy⟩ := Dp.pair_inv hy
          exact ⟨_, rfl, ax, _, 0, _, rfl, rfl, hsx, rfl, _, rfl, ay, _, 0, _, rfl, rfl, hsy, rfl, e1, e2, rfl, rfl, r⟩
        have hs2 := same_t s2 hs
        have ha2 := DpAll.same s2 ha
        have last : ∀ D H3, Same H2 H3 → H3 D = some (.lst ((ups ds).map V.bl)) → ∃ (a : Addr) (bs : List Bool), [V.ref D] = [V.ref a] ∧ SqL K H3 a (bs.map V.bl) ∧ Q (.bl (bs.all id)) H3 := fun D H3 s3 h3 =>
          ⟨D, ups ds, rfl, SqL.of h3, by rw [ups_all]; exact k H3 (s2.trans s3)⟩
        refine ⟨_, rfl, _, rfl, 1, rfl, a, xs, rfl, hs2, fun whole => ?_, fun _ b nb => ?_⟩
        · have e0 : xs = [] := by
            have w1 := whole.1
            rw [show HT.sIx xs.length 0 (some 1) = min 1 xs.length from HT.sIx_nat xs.length 0 1] at w1
            exact List.length_eq_zero_iff.mp (by omega)
          refine ⟨a, a, xs, xs.drop 1, rfl, .inr ⟨hs2, ?_, ?_⟩⟩
          · rw [e0] at hs2 ⊢
            exact hs2
          · refine lcZip (K := K) (ds := ds) (Q := fun v H3 => ∃ (a : Addr) (bs : List Bool), [v] = [V.ref a] ∧ SqL K H3 a (bs.map V.bl) ∧ Q (.bl (bs.all id)) H3) hs2 (by rw [e0] at hs2 ⊢; exact hs2) ha2 hl (fun _ _ => rfl) he last
        · rw [cut1] at *
          have sb : Same H2 (upd H2 b (.tup (xs.drop 1))) := same_new nb
          refine ⟨a, b, xs, xs.drop 1, rfl, .inr ⟨same_t sb hs2, SqT.of upd_same, ?_⟩⟩
          exact lcZip (K := K) (ds := ds) (Q := fun v H3 => ∃ (a : Addr) (bs : List Bool), [v] = [V.ref a] ∧ SqL K H3 a (bs.map V.bl) ∧ Q (.bl (bs.all id)) H3) (same_t sb hs2) (SqT.of upd_same) (DpAll.same sb ha2) hl (fun _ _ => rfl) (fun x y d d' H3 s3 => he x y d d' H3 (sb.trans s3)) fun D H3 s3 => last D H3 (sb.trans s3)
theorem sc__law_pen : FnScope ["_law_script"] ["_law_script"] (defScope s__law_pen) := ⟨rfl, rfl, rfl, by decide +kernel, rfl, by decide +kernel, by decide +kernel⟩
theorem ok__law_pen {f : Addr} {fd : FuncData} (F : Fun K "_law_pen" "_law_pen" s__law_pen f fd) (B : Blt mg) : FnOk P w K mg base CX0 1 f fd ["_law_script"] (sp__law_pen K) := by
  refine F.ok sc__law_pen (fun vs H Q E h => ?_) (fun cdv A outer s H vs Q E hr h => ?_)
  · obtain ⟨a, ns, rfl, _⟩ := h
    rfl
  · obtain ⟨a, ns, rfl, hS, k⟩ := h
    have nd := sc__law_pen.nd
    refine ⟨_, (pss_one (ps_ret (pe_disp (pps_cons pe_str (pe_callTy call_list_of (by rfl) B.list (by decide +kernel) (pa_cons (pe_slice sl_list (pv 0) po_none (po_some pe_int)) pa_nil)) (pps_cons pe_str pe_int (pps_cons pe_str pe_int pps_nil))) (by rfl) (by rfl) (fun z => by cases z) (by decide)))), ?_⟩
    intro p np
    have s1 : Same H (upd H p (.dK [])) := same_new np
    refine ⟨_, rfl, 63, rfl, a, _, rfl, s1.seq hS, fun q nq => ?_⟩
    have nqp : p ≠ q := ne_of_none upd_same nq
    refine ⟨q, _, rfl, .inl (SqL.of upd_same), fun c nc => ?_⟩
    have npc : p ≠ c := ne_of_none (show upd (upd H p (.dK [])) q _ p = some (.dK []) by rw [upd_ne nqp, upd_same]) nc
    have s2 : Same H (upd (upd H p (.dK [])) q (.lst (cutV (ns.map V.int) none (some 63)))) := s1.trans (same_new nq)
    refine ⟨?_, penKv c 0 0, rfl, by show 3 ≤ 15; decide, ?_⟩
    · rw [upd_ne npc, upd_ne nqp, upd_same]
    · rw [pen_merge]
      obtain ⟨ms, hms⟩ : ∃ ms : List Int, cutV (ns.map V.int) none (some 63) = ms.map V.int := by
        unfold cutV
        rw [← List.map_drop, ← List.map_take]
        exact ⟨_, rfl⟩
      refine k p c _ np (same_mut (s2.trans (same_new nc)) np) ⟨ms, 0, 0, upd_same, ?_, by omega, by omega⟩
      rw [upd_ne npc.symm, upd_same, hms]
theorem sc__law_draw : FnScope ["_law_pen_here", "_law_many", "_law_digit", "_law_used", "_law_cell", "_law_blend"] ["_law_pen_here", "_law_many"] (defScope s__law_draw) := ⟨rfl, rfl, rfl, by decide +kernel, rfl, by decide +kernel, by decide +kernel⟩
theorem ints_shaped (ns : List Int) : SeqAt.shaped (.list (ns.map PyData.int)) = true := by
  have : PyData.canLayAll0 (ns.map PyData.int) = true ∧ PyData.depthAll (ns.map PyData.int) = 0 := by
    induction ns with
    | nil => exact ⟨rfl, rfl⟩
    | cons n r ih =>
      refine ⟨?_, ?_⟩
      · show (true && PyData.canLayAll0 (r.map PyData.int)) = true
        rw [ih.1]
        rfl
      · show max 0 (PyData.depthAll (r.map PyData.int)) = 0
        rw [ih.2]
        rfl
  show (PyData.canLayAll0 (ns.map PyData.int) && decide (PyData.depthAll (ns.map PyData.int) + 1 ≤ 64)) = true
  rw [this.1, this.2]
  rfl
theorem ints_dpAll {H : Hp} : ∀ ns : List Int, DpAll K H (ns.map V.int) (ns.map PyData.int)
  | [] => .nil
  | n :: r => .cons (.int n) (ints_dpAll r)
theorem dg_left {H : Hp} {p c : Addr} {u l : Int} (h : H p = some (.dK (penKv c u l))) : DGet H p (.str "left") (some (.int l)) := by
  have := DGet.k (k := (Sum.inr ("left" : Str) : Key)) h
  rw [pen_left] at this
  exact this
theorem dg_used {H : Hp} {p c : Addr} {u l : Int} (h : H p = some (.dK (penKv c u l))) : DGet H p (.str "used") (some (.int u)) := by
  have := DGet.k (k := (Sum.inr ("used" : Str) : Key)) h
  rw [pen_used] at this
  exact this
theorem dg_cells {H : Hp} {p c : Addr} {u l : Int} (h : H p = some (.dK (penKv c u l))) : DGet H p (.str "cells") (some (.ref c)) := by
  have := DGet.k (k := (Sum.inr ("cells" : Str) : Key)) h
  rw [pen_cells] at this
  exact this
theorem dp_left {H : Hp} {p c : Addr} {u l : Int} (x : Int) (h : H p = some (.dK (penKv c u l))) : DPut H p (.str "left") (.int x) (upd H p (.dK (penKv c u x))) := by
  have := DPut.k (k := (Sum.inr ("left" : Str) : Key)) (v := .int x) h (sl_lt (show 3 ≤ 1000000 by decide))
  rw [pen_setL] at this
  exact this
theorem dp_used {H : Hp} {p c : Addr} {u l : Int} (x : Int) (h : H p = some (.dK (penKv c u l))) : DPut H p (.str "used") (.int x) (upd H p (.dK (penKv c x l))) := by
  have := DPut.k (k := (Sum.inr ("used" : Str) : Key)) (v := .int x) h (sl_lt (show 3 ≤ 1000000 by decide))
  rw [pen_setU] at this
  exact this
theorem atI_mod {ns : List Int} (u : Int) (h : 0 < ns.length) : ∃ z, atI (ns.map V.int) (u % ((ns.map V.int).length : Int)) = some (.int z) := by
  rw [List.length_map]
  have h1 := Int.emod_nonneg u (show (ns.length : Int) ≠ 0 by omega)
  have h2 := Int.emod_lt_of_pos u (show (0 : Int) < (ns.length : Int) by omega)
  obtain ⟨j, hj⟩ : ∃ j : Nat, u % (ns.length : Int) = (j : Int) := ⟨(u % (ns.length : Int)).toNat, by omega⟩
  rw [hj]
  have hlt : j < ns.length := by omega
  refine ⟨ns[j], atI_nat ?_⟩
  rw [List.getElem?_map, List.getElem?_eq_getElem hlt]
  rfl
theorem cm_197 (x j : Int) : CMul (x % 4294967197) j := .inl ⟨by have := Int.emod_nonneg x (show (4294967197 : Int) ≠ 0 by decide); omega, by have := Int.emod_lt_of_pos x (show (0 : Int) < 4294967197 by decide); omega⟩
theorem cm_189 (x j : Int) : CMul (x % 4294967189) j := .inl ⟨by have := Int.emod_nonneg x (show (4294967189 : Int) ≠ 0 by decide); omega, by have := Int.emod_lt_of_pos x (show (0 : Int) < 4294967189 by decide); omega⟩
theorem ok__law_draw {f : Addr} {fd : FuncData} (F : Fun K "_law_draw" "_law_draw" s__law_draw f fd) (B : Blt mg) : FnOk P w K mg base CX0 1 f fd ["_law_pen_here", "_law_many"] sp__law_draw := by
  refine F.ok sc__law_draw (fun vs H Q E h => ?_) (fun cdv A outer s H vs Q E hr h => ?_)
  · obtain ⟨p, c, many, n, rfl, _⟩ := h
    rfl
  · obtain ⟨p, c, many, n, rfl, hm, hm2, ⟨ns, u, l, h1, h2, hu0, hun⟩, hn, k⟩ := h
    have hu := hu_of hr
    have hu2 := hr.units
    have nd := sc__law_draw.nd
    have npc : p ≠ c := ne_of h1 h2 (by intro z; cases z)
    refine ⟨_, (pss_cons (ps_if (pt_cmpR op_gt (pe_dget hu (pv 0) pe_str (fun _ _ => rfl)) pe_int (nomark _))
      (pss_cons (ps_set (i := 2) nd rfl (.inl rfl) (pe_op op_mod (pe_dget hu (pv 0) pe_str (fun _ _ => rfl)) (pv 1)))
    (pss_cons (ps_dput hu (pv 0) pe_str (pe_op op_fdivW (pe_dget hu (pv 0) pe_str (fun _ _ => rfl)) (pv 1)) rfl)
    (pss_one (ps_ret (pv 2)))))
      pss_nil)
    (pss_cons (ps_set (i := 3) nd rfl (.inl rfl) (pe_dget hu (pv 0) pe_str (fun _ _ => rfl)))
    (pss_cons (ps_dput hu (pv 0) pe_str (pe_op op_add (pv 3) pe_int) rfl)
    (pss_cons (ps_set (i := 4) nd rfl (.inl rfl) (pe_op op_add (pe_op op_mul pe_int (pv 3)) pe_int))
    (pss_cons (ps_if (pt_cmpR (op_neD hu2) (pe_dget hu (pv 0) pe_str (fun _ _ => rfl)) (pe_lst pa_nil) (nomark _))
      (pss_one (ps_set (i := 4) nd rfl (.inl rfl) (pe_ix ix_list (pe_dget hu (pv 0) pe_str (fun _ _ => rfl)) (pe_op op_mod (pv 3) (pe_callB call_len_seq (by rfl) B.len (by decide +kernel) (pa_cons (pe_dget hu (pv 0) pe_str (fun _ _ => rfl)) pa_nil))) (fun _ _ => rfl))))
      pss_nil)
    (pss_cons (ps_if (PW.pt (pw_and (pt_cmpR op_lt (pv 3) (pe_callB call_len_seq (by rfl) B.len (by decide +kernel) (pa_cons (pe_dget hu (pv 0) pe_str (fun _ _ => rfl)) pa_nil)) (nomark _)) (pw_and1 (pt_cmpR op_ge (pe_callB call_abs (by rfl) B.abs (by decide +kernel) (pa_cons (pv 4) pa_nil)) (pe_op op_pow pe_int pe_int) (nomark _)))))
      (pss_cons (ps_dput hu (pv 0) pe_str (pe_op op_fdivW (pe_op op_sub (pe_callB call_abs (by rfl) B.abs (by decide +kernel) (pa_cons (pv 4) pa_nil)) (pe_op op_pow pe_int pe_int)) (pv 1)) rfl)
    (pss_one (ps_ret (pe_op op_mod (pe_op op_sub (pe_callB call_abs (by rfl) B.abs (by decide +kernel) (pa_cons (pv 4) pa_nil)) (pe_op op_pow pe_int pe_int)) (pv 1)))))
      pss_nil)
    (pss_cons (ps_set (i := 5) nd rfl (.inl rfl) (pe_op op_add (pe_op op_mul (pe_op op_mod (pv 4) pe_int) pe_int) (pe_op op_mul (pe_op op_mul pe_int (pv 3)) (pv 3))))
    (pss_cons (ps_set (i := 5) nd rfl (.inl rfl) (pe_op op_mod (pe_op op_add (pe_op op_add (pv 5) (pe_op op_mul pe_int (pv 3))) pe_int) pe_int))
    (pss_cons (ps_set (i := 5) nd rfl (.inl rfl) (pe_op op_mod (pe_op op_add (pe_op op_add (pe_op op_add (pe_op op_mul (pv 5) (pv 5)) (pe_op op_mul pe_int (pv 5))) (pe_op op_mul pe_int (pv 3))) pe_int) pe_int))
    (pss_one (ps_ret (pe_op op_mod (pe_op op_fdiv (pe_op op_mod (pe_op op_mul (pv 5) (pe_op op_add (pv 5) pe_int)) pe_int) pe_int) (pv 1))))))))))))), ?_⟩
    have wd : ∀ i : Int, CDivW i many := fun i => wide_div hm hm2 (by decide) (by decide)
    have rng : ∀ i : Int, 0 ≤ i % many ∧ i % many < many := fun i => ⟨Int.emod_nonneg i (by omega), Int.emod_lt_of_pos i hm⟩
    refine ⟨_, rfl, p, _, rfl, dg_left h1, _, _, rfl, rfl, _, rfl, ?_⟩
    refine ite2 (fun _ => ?_) (fun _ => ?_)
    · refine ⟨_, rfl, p, _, rfl, dg_left h1, _, rfl, l, many, rfl, rfl, hm, ?_⟩
      refine ⟨_, rfl, p, _, rfl, dg_left h1, _, rfl, l, many, rfl, rfl, wd _, _, rfl, p, _, rfl, dp_left _ h1, _, rfl, ?_⟩
      exact k _ _ (rng l).1 (rng l).2 (Kp.refl p H).upd ⟨ns, u, _, upd_same, by rw [upd_ne npc.symm]; exact h2, hu0, by omega⟩
    · have g1 : upd H p (.dK (penKv c (u + 1) l)) p = some (.dK (penKv c (u + 1) l)) := upd_same
      have g2 : upd H p (.dK (penKv c (u + 1) l)) c = some (.lst (ns.map V.int)) := by
        rw [upd_ne npc.symm]
        exact h2
      refine ⟨_, rfl, p, _, rfl, dg_used h1, _, rfl, u, 1, rfl, rfl, _, rfl, p, _, rfl, dp_used (u + 1) h1, ?_⟩
      refine ⟨_, rfl, 29, u, rfl, rfl, .inl ⟨by decide, by decide⟩, _, 11, rfl, rfl, ?_⟩
      refine ⟨_, rfl, p, _, rfl, dg_cells g1, Nat.zero_le _, fun q nq => ?_⟩
      have e1 : upd (upd H p (.dK (penKv c (u + 1) l))) q (.lst []) p = some (.dK (penKv c (u + 1) l)) := by
        rw [upd_ne (ne_of_none g1 nq)]
        exact g1
      have e2 : upd (upd H p (.dK (penKv c (u + 1) l))) q (.lst []) c = some (.lst (ns.map V.int)) := by
        rw [upd_ne (ne_of_none g2 nq)]
        exact g2
      have kq : Kp p H (upd (upd H p (.dK (penKv c (u + 1) l))) q (.lst [])) := (Kp.refl p H).upd.trans (Same.kp (same_new nq))
      have e3 : upd (upd H p (.dK (penKv c (u + 1) l))) q (.lst []) q = some (.lst []) := upd_same
      generalize upd (upd H p (.dK (penKv c (u + 1) l))) q (.lst []) = H1 at e1 e2 e3 kq ⊢
      have hpos : (!PyData.eqv (.list (ns.map PyData.int)) (.list [])) = true → 0 < ns.length := by
        cases ns with
        | nil => exact fun z => absurd z (by decide)
        | cons _ _ => exact fun _ => Nat.succ_pos _
      refine ⟨.list (ns.map PyData.int), .list [], .lst (SqL.of e2) (ints_dpAll ns), .lst (SqL.of e3) .nil, ints_shaped ns, ints_shaped [], _, rfl, ?_⟩
      refine ite2 (fun z => ?_) (fun _ => ?_)
      · obtain ⟨v, hv⟩ := atI_mod u (hpos z)
        refine ⟨_, rfl, p, _, rfl, dg_cells e1, _, rfl, _, rfl, p, _, rfl, dg_cells e1, c, _, rfl, .inl (SqL.of e2), u, _, rfl, rfl, (by rw [List.length_map]; have := hpos z; omega), c, _, _, _, rfl, rfl, SqL.of e2, hv, ?_⟩
        generalize v = cell
        refine ⟨_, rfl, _, rfl, p, _, rfl, dg_cells e1, c, _, rfl, .inl (SqL.of e2), u, _, rfl, rfl, _, rfl, ?_⟩
        refine ite2 (fun _ => ?_) (fun _ => ?_)
        · refine ⟨_, rfl, cell, rfl, 10, 18, rfl, rfl, ⟨by decide, by decide, by decide⟩, _, _, rfl, rfl, _, rfl, ?_⟩
          refine ite2 (fun _ => ?_) (fun _ => ?_)
          · refine ⟨_, rfl, cell, rfl, 10, 18, rfl, rfl, ⟨by decide, by decide, by decide⟩, _, _, rfl, rfl, _, rfl, _, many, rfl, rfl, wd _, _, rfl, p, _, rfl, dp_left _ e1, ?_⟩
            refine ⟨_, rfl, cell, rfl, 10, 18, rfl, rfl, ⟨by decide, by decide, by decide⟩, _, _, rfl, rfl, _, rfl, _, many, rfl, rfl, hm, ?_⟩
            exact k _ _ (rng _).1 (rng _).2 kq.upd ⟨ns, u + 1, _, upd_same, by rw [upd_ne npc.symm]; exact e2, by omega, by omega⟩
          · refine ⟨_, rfl, cell, 4294967231, rfl, rfl, (show (0 : Int) < 4294967231 by decide), _, 1664525, rfl, rfl, .inr ⟨by decide, by decide⟩, _, rfl, 24593, u, rfl, rfl, .inl ⟨by decide, by decide⟩, _, rfl, 24593 * u, u, rfl, rfl, .inr ⟨by omega, by omega⟩, _, _, rfl, rfl, ?_⟩
            refine ⟨_, rfl, _, rfl, 196613, u, rfl, rfl, .inl ⟨by decide, by decide⟩, _, _, rfl, rfl, _, 19, rfl, rfl, _, _, rfl, rfl, (show (0 : Int) < 4294967197 by decide), ?_⟩
            refine ⟨_, rfl, _, rfl, _, _, rfl, rfl, cm_197 _ _, _, rfl, 12582917, _, rfl, rfl, .inl ⟨by decide, by decide⟩, _, _, rfl, rfl, _, rfl, 7, u, rfl, rfl, .inl ⟨by decide, by decide⟩, _, _, rfl, rfl, _, 3, rfl, rfl, _, _, rfl, rfl, (show (0 : Int) < 4294967189 by decide), ?_⟩
            refine ⟨_, rfl, _, rfl, _, 25165843, rfl, rfl, _, _, rfl, rfl, cm_189 _ _, _, _, rfl, rfl, (show (0 : Int) < 4294967291 by decide), _, 64, rfl, rfl, ⟨by decide, by decide⟩, _, rfl, _, many, rfl, rfl, hm, ?_⟩
            exact k _ _ (rng _).1 (rng _).2 kq ⟨ns, u + 1, _, e1, e2, by omega, by omega⟩
        · refine iteF ?_
          refine ⟨_, rfl, cell, 4294967231, rfl, rfl, (show (0 : Int) < 4294967231 by decide), _, 1664525, rfl, rfl, .inr ⟨by decide, by decide⟩, _, rfl, 24593, u, rfl, rfl, .inl ⟨by decide, by decide⟩, _, rfl, 24593 * u, u, rfl, rfl, .inr ⟨by omega, by omega⟩, _, _, rfl, rfl, ?_⟩
          refine ⟨_, rfl, _, rfl, 196613, u, rfl, rfl, .inl ⟨by decide, by decide⟩, _, _, rfl, rfl, _, 19, rfl, rfl, _, _, rfl, rfl, (show (0 : Int) < 4294967197 by decide), ?_⟩
          refine ⟨_, rfl, _, rfl, _, _, rfl, rfl, cm_197 _ _, _, rfl, 12582917, _, rfl, rfl, .inl ⟨by decide, by decide⟩, _, _, rfl, rfl, _, rfl, 7, u, rfl, rfl, .inl ⟨by decide, by decide⟩, _, _, rfl, rfl, _, 3, rfl, rfl, _, _, rfl, rfl, (show (0 : Int) < 4294967189 by decide), ?_⟩
          refine ⟨_, rfl, _, rfl, _, 25165843, rfl, rfl, _, _, rfl, rfl, cm_189 _ _, _, _, rfl, rfl, (show (0 : Int) < 4294967291 by decide), _, 64, rfl, rfl, ⟨by decide, by decide⟩, _, rfl, _, many, rfl, rfl, hm, ?_⟩
          exact k _ _ (rng _).1 (rng _).2 kq ⟨ns, u + 1, _, e1, e2, by omega, by omega⟩
      · refine ⟨_, rfl, _, rfl, p, _, rfl, dg_cells e1, c, _, rfl, .inl (SqL.of e2), u, _, rfl, rfl, _, rfl, ?_⟩
        refine ite2 (fun _ => ?_) (fun _ => ?_)
        · refine ⟨_, rfl, 29 * u + 11, rfl, 10, 18, rfl, rfl, ⟨by decide, by decide, by decide⟩, _, _, rfl, rfl, _, rfl, ?_⟩
          refine ite2 (fun _ => ?_) (fun _ => ?_)
          · refine ⟨_, rfl, 29 * u + 11, rfl, 10, 18, rfl, rfl, ⟨by decide, by decide, by decide⟩, _, _, rfl, rfl, _, rfl, _, many, rfl, rfl, wd _, _, rfl, p, _, rfl, dp_left _ e1, ?_⟩
            refine ⟨_, rfl, 29 * u + 11, rfl, 10, 18, rfl, rfl, ⟨by decide, by decide, by decide⟩, _, _, rfl, rfl, _, rfl, _, many, rfl, rfl, hm, ?_⟩
            exact k _ _ (rng _).1 (rng _).2 kq.upd ⟨ns, u + 1, _, upd_same, by rw [upd_ne npc.symm]; exact e2, by omega, by omega⟩
          · refine ⟨_, rfl, 29 * u + 11, 4294967231, rfl, rfl, (show (0 : Int) < 4294967231 by decide), _, 1664525, rfl, rfl, .inr ⟨by decide, by decide⟩, _, rfl, 24593, u, rfl, rfl, .inl ⟨by decide, by decide⟩, _, rfl, 24593 * u, u, rfl, rfl, .inr ⟨by omega, by omega⟩, _, _, rfl, rfl, ?_⟩
            refine ⟨_, rfl, _, rfl, 196613, u, rfl, rfl, .inl ⟨by decide, by decide⟩, _, _, rfl, rfl, _, 19, rfl, rfl, _, _, rfl, rfl, (show (0 : Int) < 4294967197 by decide), ?_⟩
            refine ⟨_, rfl, _, rfl, _, _, rfl, rfl, cm_197 _ _, _, rfl, 12582917, _, rfl, rfl, .inl ⟨by decide, by decide⟩, _, _, rfl, rfl, _, rfl, 7, u, rfl, rfl, .inl ⟨by decide, by decide⟩, _, _, rfl, rfl, _, 3, rfl, rfl, _, _, rfl, rfl, (show (0 : Int) < 4294967189 by decide), ?_⟩
            refine ⟨_, rfl, _, rfl, _, 25165843, rfl, rfl, _, _, rfl, rfl, cm_189 _ _, _, _, rfl, rfl, (show (0 : Int) < 4294967291 by decide), _, 64, rfl, rfl, ⟨by decide, by decide⟩, _, rfl, _, many, rfl, rfl, hm, ?_⟩
            exact k _ _ (rng _).1 (rng _).2 kq ⟨ns, u + 1, _, e1, e2, by omega, by omega⟩
        · refine iteF ?_
          refine ⟨_, rfl, 29 * u + 11, 4294967231, rfl, rfl, (show (0 : Int) < 4294967231 by decide), _, 1664525, rfl, rfl, .inr ⟨by decide, by decide⟩, _, rfl, 24593, u, rfl, rfl, .inl ⟨by decide, by decide⟩, _, rfl, 24593 * u, u, rfl, rfl, .inr ⟨by omega, by omega⟩, _, _, rfl, rfl, ?_⟩
          refine ⟨_, rfl, _, rfl, 196613, u, rfl, rfl, .inl ⟨by decide, by decide⟩, _, _, rfl, rfl, _, 19, rfl, rfl, _, _, rfl, rfl, (show (0 : Int) < 4294967197 by decide), ?_⟩
          refine ⟨_, rfl, _, rfl, _, _, rfl, rfl, cm_197 _ _, _, rfl, 12582917, _, rfl, rfl, .inl ⟨by decide, by decide⟩, _, _, rfl, rfl, _, rfl, 7, u, rfl, rfl, .inl ⟨by decide, by decide⟩, _, _, rfl, rfl, _, 3, rfl, rfl, _, _, rfl, rfl, (show (0 : Int) < 4294967189 by decide), ?_⟩
          refine ⟨_, rfl, _, rfl, _, 25165843, rfl, rfl, _, _, rfl, rfl, cm_189 _ _, _, _, rfl, rfl, (show (0 : Int) < 4294967291 by decide), _, 64, rfl, rfl, ⟨by decide, by decide⟩, _, rfl, _, many, rfl, rfl, hm, ?_⟩
          exact k _ _ (rng _).1 (rng _).2 kq ⟨ns, u + 1, _, e1, e2, by omega, by omega⟩
theorem sc__law_pick : FnScope ["_law_pen_here", "_law_options"] ["_law_pen_here", "_law_options"] (defScope s__law_pick) := ⟨rfl, rfl, rfl, by decide +kernel, rfl, by decide +kernel, by decide +kernel⟩
theorem ok__law_pick {f : Addr} {fd : FuncData} (F : Fun K "_law_pick" "_law_pick" s__law_pick f fd) (B : Blt mg) (C__law_draw : Cal P w K mg base 1 "_law_draw" sp__law_draw) : FnOk P w K mg base CX0 2 f fd ["_law_pen_here", "_law_options"] sp__law_pick := by
  refine F.ok sc__law_pick (fun vs H Q E h => ?_) (fun cdv A outer s H vs Q E hr h => ?_)
  · obtain ⟨p, c, o, n, xs, rfl, _⟩ := h
    rfl
  · obtain ⟨p, c, o, n, xs, rfl, pen, hn, ho, hx, hx2, k⟩ := h
    have nd := sc__law_pick.nd
    refine ⟨_, (pss_one (ps_ret (pe_ix ix_list (pv 1) (pe_c C__law_draw hr (by decide) (by rfl) (pa_cons (pv 0) (pa_cons (pe_callB call_len_seq (by rfl) B.len (by decide +kernel) (pa_cons (pv 1) pa_nil)) pa_nil))) (fun _ _ => rfl)))), ?_⟩
    have nop : o ≠ p := pen.dict.elim fun _ e => ne_of ho e (by intro z; cases z)
    refine ⟨_, rfl, _, rfl, _, rfl, o, xs, rfl, .inl (SqL.of ho), p, c, (xs.length : Int), n, rfl, by omega, ?_, pen, hn, fun r H1 h0 h9 kp pen1 => ?_⟩
    · exact Nat.lt_of_le_of_lt (show ((xs.length : Int)).natAbs ≤ 100000 by omega) (by decide)
    · obtain ⟨j, rfl⟩ : ∃ j : Nat, r = (j : Int) := ⟨r.toNat, by omega⟩
      have hj : j < xs.length := by omega
      refine ⟨o, xs, (j : Int), xs[j], rfl, rfl, SqL.of (kp _ _ nop ho), atI_nat (List.getElem?_eq_getElem hj), ?_⟩
      exact k _ _ (List.getElem_mem hj) kp pen1
theorem sc__law_shuffled : FnScope ["_law_pen_here", "_law_options", "_law_left", "_law_found"] ["_law_pen_here", "_law_options"] (defScope s__law_shuffled) := ⟨rfl, rfl, rfl, by decide +kernel, rfl, by decide +kernel, by decide +kernel⟩
theorem ok__law_shuffled {f : Addr} {fd : FuncData} (F : Fun K "_law_shuffled" "_law_shuffled" s__law_shuffled f fd) (B : Blt mg) (C__law_draw : Cal P w K mg base 1 "_law_draw" sp__law_draw) : FnOk P w K mg base CX0 2 f fd ["_law_pen_here", "_law_options"] (sp__law_shuffled K) := by
  refine F.ok sc__law_shuffled (fun vs H Q E h => ?_) (fun cdv A outer s H vs Q E hr h => ?_)
  · obtain ⟨p, c, n, v, f, rfl, _⟩ := h
    rfl
  · obtain ⟨p, c, n, v, f, rfl, hv, hl, pen, hn, k⟩ := h
    have nd := sc__law_shuffled.nd
    have hu2 := hr.units
    refine ⟨_, (pss_cons (ps_par (i := 2) (j := 3) (by rfl) nd rfl rfl (by decide) rfl rfl (pa_cons (pe_callTy call_list_of (by rfl) B.list (by decide +kernel) (pa_cons (pv 1) pa_nil)) (pa_cons (pe_lst pa_nil) pa_nil)) (by rfl))
    (pss_cons (ps_while PassesOwn.never (pt_cmpR (op_neD hu2) (pv 2) (pe_lst pa_nil) (nomark _))
      (pss_one (ps_expr (pe_bm PySem.F.plainAttrs_list PySem.F.slot_list_append PySem.F.type_list_append mt_append (pv 3) (pa_cons (pe_bm PySem.F.plainAttrs_list PySem.F.slot_list_pop PySem.F.type_list_pop mt_popAt (pv 2) (pa_cons (pe_c C__law_draw hr (by decide) (by rfl) (pa_cons (pv 0) (pa_cons (pe_callB call_len_seq (by rfl) B.len (by decide +kernel) (pa_cons (pv 2) pa_nil)) pa_nil))) pa_nil)) pa_nil)))))
    (pss_one (ps_ret (pv 3))))), ?_⟩
    obtain ⟨a, xs, rfl, hxs, hP⟩ : ∃ a xs, v = .ref a ∧ (SqL K H a xs ∨ SqT K H a xs) ∧ Prs K H xs f := by
      rcases hv with ⟨a, xs, rfl, h1, h2⟩ | ⟨a, xs, rfl, h1, h2⟩
      · exact ⟨a, xs, rfl, .inr h1, h2⟩
      · exact ⟨a, xs, rfl, .inl h1, h2⟩
    refine ⟨_, rfl, a, xs, rfl, hxs, fun L nL => ?_⟩
    have z1 := same_new nL (o := HO.lst xs)
    refine ⟨Nat.zero_le _, fun D nD => ⟨_, _, rfl, ?_⟩⟩
    have z2 := same_new nD (o := HO.lst [])
    have nD0 : H D = none := by
      have := nD
      unfold upd at this
      split at this
      · cases this
      · exact this
    have LD : L ≠ D := fun e => by
      rw [← e, upd_same] at nD
      cases nD
    have Lp := pen.np nL
    have Lc := pen.nc nL
    have Dp' := pen.np nD0
    have Dc := pen.nc nD0
    have hxl := hP.len
    refine ⟨fun r σ H2 => ∃ (zs : List V) (h : Pol) (ys : List V) (g : Pol), r = h.length ∧ σ = [some (.ref p), some (.ref a), some (.ref L), some (.ref D)] ∧ Kp p H H2 ∧ PenAt H2 p c (n + g.length) ∧ H2 L = some (.lst zs) ∧ Prs K H2 zs h ∧ H2 D = some (.lst ys) ∧ Prs K H2 ys g ∧ (g ++ h).Perm f, ⟨f.length, xs, f, [], [], rfl, rfl, Same.kp (z1.trans z2), pen.same (z1.trans z2), z2 _ _ upd_same, Prs.tp (Same.tp (z1.trans z2)) hP, upd_same, .nil, List.Perm.refl _⟩, ?_⟩
    rintro r σ H2 ⟨zs, h, ys, g, rfl, rfl, k2, pen2, hL, hh, hD, hg, hp⟩
    have hlen := hp.length_eq
    rw [List.length_append] at hlen
    have hzl := hh.len
    have hyl := hg.len
    refine ⟨_, rfl, Nat.zero_le _, fun e ne => ?_⟩
    have z3 := same_new ne (o := HO.lst [])
    refine ⟨_, _, .lst (SqL.of (z3 _ _ hL)) (Prs.tp (Same.tp z3) hh).dp, .lst (SqL.of upd_same) .nil, lpd_shaped h, rfl, _, rfl, ?_⟩
    have pen3 := pen2.same z3
    have hL3 := z3 _ _ hL
    have hD3 := z3 _ _ hD
    have hh3 := Prs.tp (Same.tp z3) hh
    have hg3 := Prs.tp (Same.tp z3) hg
    have k3 := k2.trans (Same.kp z3)
    generalize upd H2 e (HO.lst []) = H3 at pen3 hL3 hD3 hh3 hg3 k3 ⊢
    rw [eqv_lnil]
    by_cases h0 : h = []
    · subst h0
      rw [decide_eq_true rfl]
      refine ite2 (fun z => by cases z) (fun _ => ?_)
      rw [List.append_nil] at hp
      exact ⟨_, rfl, k D ys g H3 k3 (pen3.mono (Nat.le_of_eq (by rw [hp.length_eq]))) nD0 hD3 hg3 hp⟩
    · rw [decide_eq_false h0]
      refine ite2 (fun _ => ?_) (fun z => absurd rfl z)
      have hpos : 0 < h.length := List.length_pos_iff.mpr h0
      refine ⟨fun σ' H' => ∃ (zs : List V) (h' : Pol) (ys : List V) (g : Pol), h.length - 1 = h'.length ∧ σ' = [some (.ref p), some (.ref a), some (.ref L), some (.ref D)] ∧ Kp p H H' ∧ PenAt H' p c (n + g.length) ∧ H' L = some (.lst zs) ∧ Prs K H' zs h' ∧ H' D = some (.lst ys) ∧ Prs K H' ys g ∧ (g ++ h').Perm f, fun σ' H' hh => ⟨h.length - 1, by omega, hh⟩, ?_⟩
      refine ⟨_, rfl, .inl ⟨rfl, _, SqL.of hD3⟩, _, rfl, .inl ⟨rfl, _, SqL.of hL3⟩, _, rfl, _, rfl, L, _, rfl, .inl (SqL.of hL3), p, c, _, _, rfl, by omega, Nat.lt_of_le_of_lt (show ((zs.length : Nat) : Int).natAbs ≤ 1000 by omega) (by decide), pen3, by omega, fun r H4 r0 r9 k4 pen4 => ?_⟩
      obtain ⟨i, rfl⟩ : ∃ i : Nat, r = (i : Int) := ⟨r.toNat, by omega⟩
      have hi : i < zs.length := by omega
      have gz : zs[i]? = some zs[i] := List.getElem?_eq_getElem hi
      have t4 := pen3.tp k4
      obtain ⟨t, ht, hx⟩ := (Prs.tp t4 hh3).get gz
      have hL4 := k4 _ _ Lp hL3
      have hD4 := k4 _ _ Dp' hD3
      refine ⟨L, zs, (i : Int), i, zs[i], rfl, rfl, hL4, by omega, by omega, by rw [seqIndex_of (by omega) (by omega)]; rw [Int.toNat_natCast], gz, ?_⟩
      have t5 : Tp H4 (upd H4 L (.lst (zs.eraseIdx i))) := tp_lst hL4
      have hD5 : upd H4 L (.lst (zs.eraseIdx i)) D = some (.lst ys) := by
        rw [upd_ne LD.symm]
        exact hD4
      refine ⟨D, ys, _, rfl, rfl, hD5, sl_lt (by omega), ?_⟩
      have t6 : Tp (upd H4 L (.lst (zs.eraseIdx i))) (upd (upd H4 L (.lst (zs.eraseIdx i))) D (.lst (ys ++ [zs[i]]))) := tp_lst hD5
      have T := t4.trans (t5.trans t6)
      refine ⟨zs.eraseIdx i, h.eraseIdx i, ys ++ [zs[i]], g ++ [t], ?_, rfl, fun x o nx ex => ?_, ?_, ?_, (Prs.tp T hh3).erase i, upd_same, Prs.snoc (Prs.tp T hg3) (hx.tp (t5.trans t6)), perm_step ht hp⟩
      · rw [List.length_eraseIdx, if_pos (by omega)]
      · rw [upd_ne (ne_of_none ex nD0), upd_ne (ne_of_none ex nL)]
        exact k4 _ _ nx (k3 _ _ nx ex)
      · rw [List.length_append]
        exact (pen4.upd Lp Lc).upd Dp' Dc
      · rw [upd_ne LD, upd_same]
theorem sc__law_prime : FnScope ["_law_pen_here", "_law_found", "_law_larger"] ["_law_pen_here"] (defScope s__law_prime) := ⟨rfl, rfl, rfl, by decide +kernel, rfl, by decide +kernel, by decide +kernel⟩
theorem pick_p1 : ∀ q ∈ ([2, 2, 3, 3, 5, 7, 2, 3, 5, 11, 13, 97] : List Int), q ∈ primes := by decide
theorem pick_p2 : ∀ q ∈ ([13, 17, 19, 23, 29, 31, 37, 41, 43, 47, 53, 59, 61, 67, 71, 73, 79, 83, 89] : List Int), q ∈ primes := by decide
theorem ok__law_prime {f : Addr} {fd : FuncData} (F : Fun K "_law_prime" "_law_prime" s__law_prime f fd) (B : Blt mg) (C__law_pick : Cal P w K mg base 2 "_law_pick" sp__law_pick) : FnOk P w K mg base CX0 3 f fd ["_law_pen_here"] sp__law_prime := by
  refine F.ok sc__law_prime (fun vs H Q E h => ?_) (fun cdv A outer s H vs Q E hr h => ?_)
  · obtain ⟨p, c, n, rfl, _⟩ := h
    rfl
  · obtain ⟨p, c, n, rfl, pen, hn, k⟩ := h
    have nd := sc__law_prime.nd
    refine ⟨_, (pss_cons (ps_set (i := 1) nd rfl (.inl rfl) (pe_c C__law_pick hr (by decide) (by rfl) (pa_cons (pv 0) (pa_cons (pe_lst (pa_cons pe_int (pa_cons pe_int (pa_cons pe_int (pa_cons pe_int (pa_cons pe_int (pa_cons pe_int (pa_cons pe_int (pa_cons pe_int (pa_cons pe_int (pa_cons pe_int (pa_cons pe_int (pa_cons pe_int pa_nil))))))))))))) pa_nil))))
    (pss_cons (ps_set (i := 2) nd rfl (.inl rfl) (pe_lst (pa_cons pe_int (pa_cons pe_int (pa_cons pe_int (pa_cons pe_int (pa_cons pe_int (pa_cons pe_int (pa_cons pe_int (pa_cons pe_int (pa_cons pe_int (pa_cons pe_int (pa_cons pe_int (pa_cons pe_int (pa_cons pe_int (pa_cons pe_int (pa_cons pe_int (pa_cons pe_int (pa_cons pe_int (pa_cons pe_int (pa_cons pe_int pa_nil)))))))))))))))))))))
    (pss_one (ps_ret (pe_ifExp (pt_cmpR op_eq (pv 1) pe_int (nomark _)) (pe_c C__law_pick hr (by decide) (by rfl) (pa_cons (pv 0) (pa_cons (pv 2) pa_nil))) (pv 1)))))), ?_⟩
    refine ⟨_, rfl, sl_of (show 12 ≤ 1000000 by decide), fun o no => ?_⟩
    refine ⟨p, c, o, n, ([2, 2, 3, 3, 5, 7, 2, 3, 5, 11, 13, 97] : List Int).map V.int, rfl, pen.same (same_new no), by omega, upd_same, by decide, by decide, fun v H1 hv kp pen1 => ?_⟩
    obtain ⟨q, hq, rfl⟩ := List.mem_map.mp hv
    refine ⟨sl_of (show 19 ≤ 1000000 by decide), fun o2 no2 => ?_⟩
    have kp2 : Kp p H (upd H1 o2 (.lst (([13, 17, 19, 23, 29, 31, 37, 41, 43, 47, 53, 59, 61, 67, 71, 73, 79, 83, 89] : List Int).map V.int))) := (Same.kp (same_new no)).trans (kp.trans (Same.kp (same_new no2)))
    refine ⟨_, rfl, rfl, _, rfl, ?_⟩
    refine ite2 (fun _ => ?_) (fun _ => ?_)
    · refine ⟨_, rfl, _, rfl, p, c, o2, n + 1, ([13, 17, 19, 23, 29, 31, 37, 41, 43, 47, 53, 59, 61, 67, 71, 73, 79, 83, 89] : List Int).map V.int, rfl, pen1.same (same_new no2), by omega, upd_same, by decide, by decide, fun v H2 hv2 kp3 pen2 => ?_⟩
      obtain ⟨q2, hq2, rfl⟩ := List.mem_map.mp hv2
      exact k _ _ (pick_p2 _ hq2) (kp2.trans kp3) pen2
    · exact ⟨_, rfl, k _ _ (pick_p1 _ hq) kp2 ((pen1.same (same_new no2)).mono (by omega))⟩
theorem sc__law_integer : FnScope ["_law_pen_here", "_law_most"] ["_law_pen_here", "_law_most"] (defScope s__law_integer) := ⟨rfl, rfl, rfl, by decide +kernel, rfl, by decide +kernel, by decide +kernel⟩
theorem ten90 {m : Int} (h0 : 0 ≤ m) (h : m.natAbs < 10 ^ 90) : (2 * m + 1).natAbs < 2 ^ 400 := by
  have e : (2 * m + 1).natAbs = 2 * m.natAbs + 1 := by omega
  have h2 : 2 * 10 ^ 90 + 1 < 2 ^ 400 := by decide +kernel
  rw [e]
  omega
theorem ok__law_integer {f : Addr} {fd : FuncData} (F : Fun K "_law_integer" "_law_integer" s__law_integer f fd) (B : Blt mg) (C__law_draw : Cal P w K mg base 1 "_law_draw" sp__law_draw) : FnOk P w K mg base CX0 2 f fd ["_law_pen_here", "_law_most"] sp__law_integer := by
  refine F.ok sc__law_integer (fun vs H Q E h => ?_) (fun cdv A outer s H vs Q E hr h => ?_)
  · obtain ⟨p, c, m, n, rfl, _⟩ := h
    rfl
  · obtain ⟨p, c, m, n, rfl, hm, hm2, pen, hn, k⟩ := h
    have nd := sc__law_integer.nd
    refine ⟨_, (pss_one (ps_ret (pe_op op_sub (pe_c C__law_draw hr (by decide) (by rfl) (pa_cons (pv 0) (pa_cons (pe_op op_add (pe_op op_mul pe_int (pv 1)) pe_int) pa_nil))) (pv 1)))), ?_⟩
    refine ⟨_, rfl, _, rfl, 2, m, rfl, rfl, .inl ⟨by decide, by decide⟩, _, 1, rfl, rfl, p, c, 2 * m + 1, n, rfl, by omega, ten90 hm hm2, pen, hn, fun r H1 h0 h9 kp pen1 => ?_⟩
    exact ⟨_, rfl, r, m, rfl, rfl, k _ _ (by omega) kp pen1⟩
theorem sc__law_normal : FnScope ["_law_prime_here", "_law_pairs_here", "_law_terms", "_law_exponent", "_law_coefficient", "_law_kept"] ["_law_prime_here", "_law_pairs_here"] (defScope s__law_normal) := ⟨rfl, rfl, rfl, by decide +kernel, rfl, by decide +kernel, by decide +kernel⟩
theorem ok__law_normal {f : Addr} {fd : FuncData} (F : Fun K "_law_normal" "_law_normal" s__law_normal f fd) (B : Blt mg) : FnOk P w K mg base CX0 1 f fd ["_law_prime_here", "_law_pairs_here"] (sp_normalize K) := by
  refine F.ok sc__law_normal (fun vs H Q E h => ?_) (fun cdv A outer s H vs Q E hr h => ?_)
  · obtain ⟨p, v, ps, rfl, _⟩ := h
    rfl
  · obtain ⟨p, v, ps, rfl, hp, hv, hl, k⟩ := h
    have hu := hu_of hr
    have nd := sc__law_normal.nd
    rcases hv with ⟨a, xs, rfl, hs, hP⟩ | ⟨a, xs, rfl, hs, hP⟩
    · refine ⟨_, (pss_cons (ps_set (i := 2) nd rfl (.inr rfl) pe_dnewK)
        (pss_cons (ps_for PassesOwn.never rfl (pi_tup (pv 1)) (pg_tup rfl (pgs_cons (pg_name (i := 3) nd rfl (.inl rfl)) (pgs_cons (pg_name (i := 4) nd rfl (.inl rfl)) pgs_nil)))
          (pss_one (ps_dput hu (pv 2) (pv 3) (pe_op op_mod (pe_op op_add (pe_dget2 hu (pv 2) (pv 3) pe_int ⟨rfl, rfl, rfl, rfl⟩) (pv 4)) (pv 0)) rfl)))
        (pss_cons (ps_setLc (i := 5) (own := [("_law_exponent", 3)]) (by rfl) nd rfl rfl (sw_true rfl rfl rfl (by decide +kernel)) (pi_list (pe_callB (call_sortedDA rfl) (by rfl) B.sorted (by decide +kernel) (pa_cons (pv 2) pa_nil))) (blkOk_by (N := ["_law_prime_here", "_law_pairs_here", "_law_terms", "_law_exponent", "_law_coefficient", "_law_kept"]) (sc := defScope s__law_normal) (own := [("_law_exponent", 3)]) (by decide +kernel)) (fun _ _ _ _ _ => (pg_name (i := 3) nd rfl (.inl rfl))) (fun _ _ _ _ _ => (pts_one (pt_cmpR op_ne (pe_dget hu (pv 2) (pv 3) (fun _ _ => rfl)) pe_int (nomark _)))) (fun _ _ _ _ _ => (pv 3)))
        (pss_one (ps_ret (pe_callTy call_tuple_of (by rfl) B.tuple (by decide +kernel) (pa_cons (pe_lc (own := [("_law_exponent", 3)]) (by rfl) nd (pi_list (pv 5)) (blkOk_by (N := ["_law_prime_here", "_law_pairs_here", "_law_terms", "_law_exponent", "_law_coefficient", "_law_kept"]) (sc := defScope s__law_normal) (own := [("_law_exponent", 3)]) (by decide +kernel)) (fun _ _ _ _ _ => (pg_name (i := 3) nd rfl (.inl rfl))) (fun _ _ _ _ _ => pts_nil) (fun _ _ _ _ _ => (pe_tup (pa_cons (pv 3) (pa_cons (pe_dget hu (pv 2) (pv 3) (fun _ _ => rfl)) pa_nil))))) pa_nil))))))), ?_⟩
      intro d nd0
      have s1 : Same H (upd H d (.dK [])) := same_new nd0
      refine ⟨_, rfl, a, rfl, ⟨_, same_t s1 hs⟩, for_tup (K := K) (a := a) (xs := xs) (fun i σ H2 => ∃ (m : Pol) (y z : Option V), σ = [some (.int p), some (.ref a), some (.ref d), y, z, none] ∧ Same H H2 ∧ H2 d = some (.dK (kvOf m)) ∧ (m.map (·.1)).Nodup ∧ m.length ≤ i ∧ ∀ e, cf m e = cf (ps.take i) e % p) ?_ ?_ ?_ ?_⟩
      · exact ⟨[], none, none, rfl, s1, upd_same, List.nodup_nil, Nat.le_refl _, fun _ => rfl⟩
      · rintro i σ H2 _ ⟨m, y, z, _, s2, _⟩
        exact same_t s2 hs
      · rintro i x σ H2 hi ⟨m, y, z, rfl, s2, hd, hn, hm, hc⟩
        obtain ⟨t, ht, b, rfl, hb⟩ := hP.get hi
        have hlt : i < ps.length := (List.getElem?_eq_some_iff.mp ht).1
        refine ⟨b, _, rfl, same_t s2 hb, rfl, _, _, rfl, _, _, rfl, rfl, ?_⟩
        refine ⟨_, rfl, d, rfl, .inl ⟨_, .inl hd⟩, _, rfl, _, dget_any t.1 hd, _, rfl, cf m t.1, t.2, kv_getD m t.1 hn, rfl, _, rfl, _, p, rfl, rfl, hp, _, rfl, _, rfl, d, _, rfl, dput_int t.1 ((cf m t.1 + t.2) % p) hd hn (by omega), ?_⟩
        refine ⟨put m t.1 ((cf m t.1 + t.2) % p), _, _, rfl, same_mut s2 nd0, upd_same, put_nodup _ _ _ hn, ?_, fun e => ?_⟩
        · have := put_len m t.1 ((cf m t.1 + t.2) % p)
          omega
        · rw [put_cf _ _ _ _ hn, take_snoc ht, cf_append, cf_cons, cf_nil]
          by_cases q : e = t.1
          · rw [if_pos q, if_pos q.symm, hc, q, Int.add_zero, Int.emod_add_emod]
          · rw [if_neg q, if_neg (fun z => q z.symm), hc, Int.zero_add, Int.add_zero]
      · rintro σ H2 ⟨m, y, z, rfl, s2, hd, hn, hm, hc⟩
        have hlen := hP.len
        rw [hlen, List.take_length] at hc
        have hml : m.length ≤ 1000000 := by omega
        refine ⟨_, rfl, d, kvOf m, m.map (·.1), rfl, .inl hd, kv_keys m, fun ys b perm srt nb => ?_⟩
        have hyl : ys.length ≤ 1000000 := by
          rw [perm.length_eq, List.length_map]
          exact hml
        have sb : Same H2 (upd H2 b (.lst (ys.map V.int))) := same_new nb
        have hk : ∀ e ∈ ys, e ∈ m.map (·.1) := fun e he => perm.mem_iff.mp he
        refine ⟨b, rfl, ⟨_, SqL.of upd_same⟩, fun D nD => ?_⟩
        refine lc_list (K := K) (a := b) (xs := ys.map V.int) (fun i H3 => Same (upd H2 b (.lst (ys.map V.int))) H3 ∧ H3 D = some (.lst (((ys.take i).filter fun e => decide (cf m e ≠ 0)).map V.int))) ⟨same_new nD, upd_same⟩ (fun i H3 _ h => SqL.of (h.1 _ _ upd_same)) ?_ ?_
        · rintro i x H3 hi ⟨s3, h3⟩
          obtain ⟨e, he, rfl⟩ := ints_get hi
          have hd3 := s3 _ _ (sb _ _ hd)
          refine ⟨rfl, _, rfl, _, rfl, d, _, rfl, dget_int hd3 hn (hk e (List.mem_of_getElem? he)), rfl, _, rfl, ?_⟩
          show if (!decide (V.int (cf m e) = V.int 0)) = true then _ else _
          rw [take_snoc he, List.filter_append, List.map_append]
          by_cases q : cf m e = 0
          · rw [q, if_neg (by simp)]
            refine ⟨s3, ?_⟩
            rw [h3]
            simp [q]
          · have zz : (!decide (V.int (cf m e) = V.int 0)) = true := by simp [q]
            rw [zz]
            refine iteT ?_
            refine ⟨_, rfl, _, h3, sl_lt ?_, same_mut s3 nD, ?_⟩
            · rw [List.length_map]
              have h1 := List.length_filter_le (fun e => decide (cf m e ≠ 0)) (ys.take i)
              have h2 : i < ys.length := (List.getElem?_eq_some_iff.mp he).1
              rw [List.length_take] at h1
              omega
            · rw [upd_same]
              simp [q]
        · rintro H3 ⟨s3, h3⟩
          rw [List.length_map, List.take_length] at h3
          have hd3 := s3 _ _ (sb _ _ hd)
          have s03 : Same H H3 := (s2.trans sb).trans s3
          generalize hzs : (ys.filter fun e => decide (cf m e ≠ 0)) = zs at h3
          have hzl : zs.length ≤ 1000000 := by
            have h1 := List.length_filter_le (fun e => decide (cf m e ≠ 0)) ys
            rw [hzs] at h1
            omega
          have hzk : ∀ e ∈ zs, e ∈ m.map (·.1) := fun e he => hk e (List.mem_filter.mp (show e ∈ ys.filter fun e => decide (cf m e ≠ 0) by rw [hzs]; exact he)).1
          refine ⟨_, rfl, D, rfl, ⟨_, SqL.of h3⟩, fun D2 nD2 => ?_⟩
          refine lc_list (K := K) (a := D) (xs := zs.map V.int) (fun i H4 => Grow K H3 D2 ((zs.take i).map fun e => (e, cf m e)) H4) (.start nD2) (fun i H4 _ g => SqL.of (g.same _ _ h3)) ?_ ?_
          · intro i x H4 hi g
            obtain ⟨e, he, rfl⟩ := ints_get hi
            refine ⟨rfl, ?_⟩
            dsimp only [tYes]
            rw [if_pos rfl]
            refine ⟨_, rfl, _, rfl, _, rfl, d, _, rfl, dget_int (g.same _ _ hd3) hn (hzk e (List.mem_of_getElem? he)), sl_of (show 2 ≤ 1000000 by decide), fun q nq => ?_⟩
            rw [take_snoc he, List.map_append]
            refine g.step nD2 nq e (cf m e) ?_
            have : i < zs.length := (List.getElem?_eq_some_iff.mp he).1
            rw [List.length_map, List.length_take]
            omega
          · intro H4 g
            rw [List.length_map, List.take_length] at g
            have hz : (zs.map fun e => (e, cf m e)) = kept p (cf ps) ys := by
              unfold kept
              rw [← hzs]
              have e1 : (fun e => decide (cf m e ≠ 0)) = fun e => decide (cf ps e % p ≠ 0) := funext fun e => by rw [hc]
              have e2 : (fun e => (e, cf m e)) = fun e => (e, cf ps e % p) := funext fun e => by rw [hc]
              rw [e1, e2]
            rw [hz] at g
            refine rd_tuple g fun v H5 s5 h5 => k v H5 _ (s03.trans s5) h5 (kept_nf hp srt (perm.nodup_iff.mpr hn) fun e he => ?_)
            rw [← hc, cf_out (fun z => he (perm.mem_iff.mpr z))]
    · refine ⟨_, (pss_cons (ps_set (i := 2) nd rfl (.inr rfl) pe_dnewK)
        (pss_cons (ps_for PassesOwn.never rfl (pi_list (pv 1)) (pg_tup rfl (pgs_cons (pg_name (i := 3) nd rfl (.inl rfl)) (pgs_cons (pg_name (i := 4) nd rfl (.inl rfl)) pgs_nil)))
          (pss_one (ps_dput hu (pv 2) (pv 3) (pe_op op_mod (pe_op op_add (pe_dget2 hu (pv 2) (pv 3) pe_int ⟨rfl, rfl, rfl, rfl⟩) (pv 4)) (pv 0)) rfl)))
        (pss_cons (ps_setLc (i := 5) (own := [("_law_exponent", 3)]) (by rfl) nd rfl rfl (sw_true rfl rfl rfl (by decide +kernel)) (pi_list (pe_callB (call_sortedDA rfl) (by rfl) B.sorted (by decide +kernel) (pa_cons (pv 2) pa_nil))) (blkOk_by (N := ["_law_prime_here", "_law_pairs_here", "_law_terms", "_law_exponent", "_law_coefficient", "_law_kept"]) (sc := defScope s__law_normal) (own := [("_law_exponent", 3)]) (by decide +kernel)) (fun _ _ _ _ _ => (pg_name (i := 3) nd rfl (.inl rfl))) (fun _ _ _ _ _ => (pts_one (pt_cmpR op_ne (pe_dget hu (pv 2) (pv 3) (fun _ _ => rfl)) pe_int (nomark _)))) (fun _ _ _ _ _ => (pv 3)))
        (pss_one (ps_ret (pe_callTy call_tuple_of (by rfl) B.tuple (by decide +kernel) (pa_cons (pe_lc (own := [("_law_exponent", 3)]) (by rfl) nd (pi_list (pv 5)) (blkOk_by (N := ["_law_prime_here", "_law_pairs_here", "_law_terms", "_law_exponent", "_law_coefficient", "_law_kept"]) (sc := defScope s__law_normal) (own := [("_law_exponent", 3)]) (by decide +kernel)) (fun _ _ _ _ _ => (pg_name (i := 3) nd rfl (.inl rfl))) (fun _ _ _ _ _ => pts_nil) (fun _ _ _ _ _ => (pe_tup (pa_cons (pv 3) (pa_cons (pe_dget hu (pv 2) (pv 3) (fun _ _ => rfl)) pa_nil))))) pa_nil))))))), ?_⟩
      intro d nd0
      have s1 : Same H (upd H d (.dK [])) := same_new nd0
      refine ⟨_, rfl, a, rfl, ⟨_, same_l s1 hs⟩, for_list (K := K) (a := a) (xs := xs) (fun i σ H2 => ∃ (m : Pol) (y z : Option V), σ = [some (.int p), some (.ref a), some (.ref d), y, z, none] ∧ Same H H2 ∧ H2 d = some (.dK (kvOf m)) ∧ (m.map (·.1)).Nodup ∧ m.length ≤ i ∧ ∀ e, cf m e = cf (ps.take i) e % p) ?_ ?_ ?_ ?_⟩
      · exact ⟨[], none, none, rfl, s1, upd_same, List.nodup_nil, Nat.le_refl _, fun _ => rfl⟩
      · rintro i σ H2 _ ⟨m, y, z, _, s2, _⟩
        exact same_l s2 hs
      · rintro i x σ H2 hi ⟨m, y, z, rfl, s2, hd, hn, hm, hc⟩
        obtain ⟨t, ht, b, rfl, hb⟩ := hP.get hi
        have hlt : i < ps.length := (List.getElem?_eq_some_iff.mp ht).1
        refine ⟨b, _, rfl, same_t s2 hb, rfl, _, _, rfl, _, _, rfl, rfl, ?_⟩
        refine ⟨_, rfl, d, rfl, .inl ⟨_, .inl hd⟩, _, rfl, _, dget_any t.1 hd, _, rfl, cf m t.1, t.2, kv_getD m t.1 hn, rfl, _, rfl, _, p, rfl, rfl, hp, _, rfl, _, rfl, d, _, rfl, dput_int t.1 ((cf m t.1 + t.2) % p) hd hn (by omega), ?_⟩
        refine ⟨put m t.1 ((cf m t.1 + t.2) % p), _, _, rfl, same_mut s2 nd0, upd_same, put_nodup _ _ _ hn, ?_, fun e => ?_⟩
        · have := put_len m t.1 ((cf m t.1 + t.2) % p)
          omega
        · rw [put_cf _ _ _ _ hn, take_snoc ht, cf_append, cf_cons, cf_nil]
          by_cases q : e = t.1
          · rw [if_pos q, if_pos q.symm, hc, q, Int.add_zero, Int.emod_add_emod]
          · rw [if_neg q, if_neg (fun z => q z.symm), hc, Int.zero_add, Int.add_zero]
      · rintro σ H2 ⟨m, y, z, rfl, s2, hd, hn, hm, hc⟩
        have hlen := hP.len
        rw [hlen, List.take_length] at hc
        have hml : m.length ≤ 1000000 := by omega
        refine ⟨_, rfl, d, kvOf m, m.map (·.1), rfl, .inl hd, kv_keys m, fun ys b perm srt nb => ?_⟩
        have hyl : ys.length ≤ 1000000 := by
          rw [perm.length_eq, List.length_map]
          exact hml
        have sb : Same H2 (upd H2 b (.lst (ys.map V.int))) := same_new nb
        have hk : ∀ e ∈ ys, e ∈ m.map (·.1) := fun e he => perm.mem_iff.mp he
        refine ⟨b, rfl, ⟨_, SqL.of upd_same⟩, fun D nD => ?_⟩
        refine lc_list (K := K) (a := b) (xs := ys.map V.int) (fun i H3 => Same (upd H2 b (.lst (ys.map V.int))) H3 ∧ H3 D = some (.lst (((ys.take i).filter fun e => decide (cf m e ≠ 0)).map V.int))) ⟨same_new nD, upd_same⟩ (fun i H3 _ h => SqL.of (h.1 _ _ upd_same)) ?_ ?_
        · rintro i x H3 hi ⟨s3, h3⟩
          obtain ⟨e, he, rfl⟩ := ints_get hi
          have hd3 := s3 _ _ (sb _ _ hd)
          refine ⟨rfl, _, rfl, _, rfl, d, _, rfl, dget_int hd3 hn (hk e (List.mem_of_getElem? he)), rfl, _, rfl, ?_⟩
          show if (!decide (V.int (cf m e) = V.int 0)) = true then _ else _
          rw [take_snoc he, List.filter_append, List.map_append]
          by_cases q : cf m e = 0
          · rw [q, if_neg (by simp)]
            refine ⟨s3, ?_⟩
            rw [h3]
            simp [q]
          · have zz : (!decide (V.int (cf m e) = V.int 0)) = true := by simp [q]
            rw [zz]
            refine iteT ?_
            refine ⟨_, rfl, _, h3, sl_lt ?_, same_mut s3 nD, ?_⟩
            · rw [List.length_map]
              have h1 := List.length_filter_le (fun e => decide (cf m e ≠ 0)) (ys.take i)
              have h2 : i < ys.length := (List.getElem?_eq_some_iff.mp he).1
              rw [List.length_take] at h1
              omega
            · rw [upd_same]
              simp [q]
        · rintro H3 ⟨s3, h3⟩
          rw [List.length_map, List.take_length] at h3
          have hd3 := s3 _ _ (sb _ _ hd)
          have s03 : Same H H3 := (s2.trans sb).trans s3
          generalize hzs : (ys.filter fun e => decide (cf m e ≠ 0)) = zs at h3
          have hzl : zs.length ≤ 1000000 := by
            have h1 := List.length_filter_le (fun e => decide (cf m e ≠ 0)) ys
            rw [hzs] at h1
            omega
          have hzk : ∀ e ∈ zs, e ∈ m.map (·.1) := fun e he => hk e (List.mem_filter.mp (show e ∈ ys.filter fun e => decide (cf m e ≠ 0) by rw [hzs]; exact he)).1
          refine ⟨_, rfl, D, rfl, ⟨_, SqL.of h3⟩, fun D2 nD2 => ?_⟩
          refine lc_list (K := K) (a := D) (xs := zs.map V.int) (fun i H4 => Grow K H3 D2 ((zs.take i).map fun e => (e, cf m e)) H4) (.start nD2) (fun i H4 _ g => SqL.of (g.same _ _ h3)) ?_ ?_
          · intro i x H4 hi g
            obtain ⟨e, he, rfl⟩ := ints_get hi
            refine ⟨rfl, ?_⟩
            dsimp only [tYes]
            rw [if_pos rfl]
            refine ⟨_, rfl, _, rfl, _, rfl, d, _, rfl, dget_int (g.same _ _ hd3) hn (hzk e (List.mem_of_getElem? he)), sl_of (show 2 ≤ 1000000 by decide), fun q nq => ?_⟩
            rw [take_snoc he, List.map_append]
            refine g.step nD2 nq e (cf m e) ?_
            have : i < zs.length := (List.getElem?_eq_some_iff.mp he).1
            rw [List.length_map, List.length_take]
            omega
          · intro H4 g
            rw [List.length_map, List.take_length] at g
            have hz : (zs.map fun e => (e, cf m e)) = kept p (cf ps) ys := by
              unfold kept
              rw [← hzs]
              have e1 : (fun e => decide (cf m e ≠ 0)) = fun e => decide (cf ps e % p ≠ 0) := funext fun e => by rw [hc]
              have e2 : (fun e => (e, cf m e)) = fun e => (e, cf ps e % p) := funext fun e => by rw [hc]
              rw [e1, e2]
            rw [hz] at g
            refine rd_tuple g fun v H5 s5 h5 => k v H5 _ (s03.trans s5) h5 (kept_nf hp srt (perm.nodup_iff.mpr hn) fun e he => ?_)
            rw [← hc, cf_out (fun z => he (perm.mem_iff.mpr z))]
theorem sc__law_odd_value : FnScope ["_law_pen_here", "_law_options"] ["_law_pen_here"] (defScope s__law_odd_value) := ⟨rfl, rfl, rfl, by decide +kernel, rfl, by decide +kernel, by decide +kernel⟩
theorem ok__law_odd_value {f : Addr} {fd : FuncData} (F : Fun K "_law_odd_value" "_law_odd_value" s__law_odd_value f fd) (B : Blt mg) (C__law_pick : Cal P w K mg base 2 "_law_pick" sp__law_pick) : FnOk P w K mg base CX0 3 f fd ["_law_pen_here"] (sp__law_odd_value K) := by
  refine F.ok sc__law_odd_value (fun vs H Q E h => ?_) (fun cdv A outer s H vs Q E hr h => ?_)
  · obtain ⟨p, c, n, rfl, _⟩ := h
    rfl
  · obtain ⟨p, c, n, rfl, pen, hn, k⟩ := h
    have nd := sc__law_odd_value.nd
    refine ⟨_, (pss_cons (ps_set (i := 1) nd rfl (.inl rfl) (pe_lst (pa_cons pe_non (pa_cons pe_bl (pa_cons pe_bl (pa_cons pe_int (pa_cons pe_int (pa_cons (pe_un un_neg pe_int) (pa_cons pe_str (pa_cons pe_str (pa_cons (pe_lst pa_nil) (pa_cons pe_dnewK (pa_cons (pe_tup (pa_cons pe_int pa_nil)) (pa_cons (pe_tup (pa_cons (pe_tup (pa_cons pe_int (pa_cons pe_int pa_nil))) pa_nil)) (pa_cons (pe_lst (pa_cons (pe_tup (pa_cons pe_int (pa_cons pe_int pa_nil))) pa_nil)) (pa_cons (pe_tup (pa_cons (pe_tup (pa_cons pe_int (pa_cons pe_int pa_nil))) (pa_cons pe_int pa_nil))) pa_nil))))))))))))))))
    (pss_cons (ps_set (i := 1) nd rfl (.inl rfl) (pe_op op_cat (pv 1) (pe_lst (pa_cons (pe_tup (pa_cons (pe_tup pa_nil) (pa_cons pe_bl pa_nil))) (pa_cons (pe_tup (pa_cons (pe_tup (pa_cons (pe_tup (pa_cons pe_int (pa_cons pe_int pa_nil))) pa_nil)) (pa_cons pe_int pa_nil))) (pa_cons (pe_tup (pa_cons (pe_tup (pa_cons pe_int (pa_cons pe_int pa_nil))) (pa_cons (pe_tup (pa_cons pe_int (pa_cons pe_int pa_nil))) pa_nil))) (pa_cons pe_str (pa_cons (pe_tup (pa_cons (pe_lst pa_nil) (pa_cons pe_int pa_nil))) pa_nil))))))))
    (pss_one (ps_ret (pe_c C__law_pick hr (by decide) (by rfl) (pa_cons (pv 0) (pa_cons (pe_op op_cat (pv 1) (pe_lst (pa_cons (pe_tup (pa_cons (pe_tup pa_nil) (pa_cons pe_str pa_nil))) (pa_cons (pe_tup (pa_cons (pe_tup pa_nil) (pa_cons pe_int (pa_cons pe_int pa_nil)))) pa_nil)))) pa_nil))))))), ?_⟩
    refine ⟨1, rfl, sl_of (show 0 ≤ 1000000 by decide), fun a1 n1 => ?_⟩
    have s1 := same_new n1 (o := HO.lst [])
    have d1 := dn_lst (K := K) n1 [] [] .nil
    intro a2 n2
    have s2 := same_new n2 (o := HO.dK [])
    have d2 := dn_dct (K := K) n2
    refine ⟨sl_of (show 1 ≤ 1000000 by decide), fun a3 n3 => ?_⟩
    have s3 := same_new n3 (o := HO.tup [V.int (0)])
    have d3 := dn_tup (K := K) n3 [V.int (0)] [PyData.int (0)] (.cons (.int (0)) .nil)
    refine ⟨sl_of (show 2 ≤ 1000000 by decide), fun a4 n4 => ?_⟩
    have s4 := same_new n4 (o := HO.tup [V.int (0), V.int (1)])
    have d4 := dn_tup (K := K) n4 [V.int (0), V.int (1)] [PyData.int (0), PyData.int (1)] (.cons (.int (0)) (.cons (.int (1)) .nil))
    refine ⟨sl_of (show 1 ≤ 1000000 by decide), fun a5 n5 => ?_⟩
    have s5 := same_new n5 (o := HO.tup [V.ref a4])
    have d5 := dn_tup (K := K) n5 [V.ref a4] [PyData.tuple [PyData.int (0), PyData.int (1)]] (.cons (Dp.same (s5) d4) .nil)
    refine ⟨sl_of (show 2 ≤ 1000000 by decide), fun a6 n6 => ?_⟩
    have s6 := same_new n6 (o := HO.tup [V.int (0), V.int (1)])
    have d6 := dn_tup (K := K) n6 [V.int (0), V.int (1)] [PyData.int (0), PyData.int (1)] (.cons (.int (0)) (.cons (.int (1)) .nil))
    refine ⟨sl_of (show 1 ≤ 1000000 by decide), fun a7 n7 => ?_⟩
    have s7 := same_new n7 (o := HO.lst [V.ref a6])
    have d7 := dn_lst (K := K) n7 [V.ref a6] [PyData.tuple [PyData.int (0), PyData.int (1)]] (.cons (Dp.same (s7) d6) .nil)
    refine ⟨sl_of (show 2 ≤ 1000000 by decide), fun a8 n8 => ?_⟩
    have s8 := same_new n8 (o := HO.tup [V.int (0), V.int (1)])
    have d8 := dn_tup (K := K) n8 [V.int (0), V.int (1)] [PyData.int (0), PyData.int (1)] (.cons (.int (0)) (.cons (.int (1)) .nil))
    refine ⟨sl_of (show 2 ≤ 1000000 by decide), fun a9 n9 => ?_⟩
    have s9 := same_new n9 (o := HO.tup [V.ref a8, V.int (0)])
    have d9 := dn_tup (K := K) n9 [V.ref a8, V.int (0)] [PyData.tuple [PyData.int (0), PyData.int (1)], PyData.int (0)] (.cons (Dp.same (s9) d8) (.cons (.int (0)) .nil))
    refine ⟨sl_of (show 14 ≤ 1000000 by decide), fun a10 n10 => ?_⟩
    have s10 := same_new n10 (o := HO.lst [V.non, V.bl true, V.bl false, V.int (0), V.int (1), V.int (-1), V.str "", V.str "0", V.ref a1, V.ref a2, V.ref a3, V.ref a5, V.ref a7, V.ref a9])
    refine ⟨_, rfl, ?_⟩
    refine ⟨sl_of (show 0 ≤ 1000000 by decide), fun a11 n11 => ?_⟩
    have s11 := same_new n11 (o := HO.tup [])
    have d11 := dn_tup (K := K) n11 [] [] .nil
    refine ⟨sl_of (show 2 ≤ 1000000 by decide), fun a12 n12 => ?_⟩
    have s12 := same_new n12 (o := HO.tup [V.ref a11, V.bl true])
    have d12 := dn_tup (K := K) n12 [V.ref a11, V.bl true] [PyData.tuple [], PyData.bool true] (.cons (Dp.same (s12) d11) (.cons (.bl true) .nil))
    refine ⟨sl_of (show 2 ≤ 1000000 by decide), fun a13 n13 => ?_⟩
    have s13 := same_new n13 (o := HO.tup [V.int (0), V.int (0)])
    have d13 := dn_tup (K := K) n13 [V.int (0), V.int (0)] [PyData.int (0), PyData.int (0)] (.cons (.int (0)) (.cons (.int (0)) .nil))
    refine ⟨sl_of (show 1 ≤ 1000000 by decide), fun a14 n14 => ?_⟩
    have s14 := same_new n14 (o := HO.tup [V.ref a13])
    have d14 := dn_tup (K := K) n14 [V.ref a13] [PyData.tuple [PyData.int (0), PyData.int (0)]] (.cons (Dp.same (s14) d13) .nil)
    refine ⟨sl_of (show 2 ≤ 1000000 by decide), fun a15 n15 => ?_⟩
    have s15 := same_new n15 (o := HO.tup [V.ref a14, V.int (1)])
    have d15 := dn_tup (K := K) n15 [V.ref a14, V.int (1)] [PyData.tuple [PyData.tuple [PyData.int (0), PyData.int (0)]], PyData.int (1)] (.cons (Dp.same (s15) d14) (.cons (.int (1)) .nil))
    refine ⟨sl_of (show 2 ≤ 1000000 by decide), fun a16 n16 => ?_⟩
    have s16 := same_new n16 (o := HO.tup [V.int (1), V.int (1)])
    have d16 := dn_tup (K := K) n16 [V.int (1), V.int (1)] [PyData.int (1), PyData.int (1)] (.cons (.int (1)) (.cons (.int (1)) .nil))
    refine ⟨sl_of (show 2 ≤ 1000000 by decide), fun a17 n17 => ?_⟩
    have s17 := same_new n17 (o := HO.tup [V.int (0), V.int (1)])
    have d17 := dn_tup (K := K) n17 [V.int (0), V.int (1)] [PyData.int (0), PyData.int (1)] (.cons (.int (0)) (.cons (.int (1)) .nil))
    refine ⟨sl_of (show 2 ≤ 1000000 by decide), fun a18 n18 => ?_⟩
    have s18 := same_new n18 (o := HO.tup [V.ref a16, V.ref a17])
    have d18 := dn_tup (K := K) n18 [V.ref a16, V.ref a17] [PyData.tuple [PyData.int (1), PyData.int (1)], PyData.tuple [PyData.int (0), PyData.int (1)]] (.cons (Dp.same ((s17).trans s18) d16) (.cons (Dp.same (s18) d17) .nil))
    refine ⟨sl_of (show 0 ≤ 1000000 by decide), fun a19 n19 => ?_⟩
    have s19 := same_new n19 (o := HO.lst [])
    have d19 := dn_lst (K := K) n19 [] [] .nil
    refine ⟨sl_of (show 2 ≤ 1000000 by decide), fun a20 n20 => ?_⟩
    have s20 := same_new n20 (o := HO.tup [V.ref a19, V.int (0)])
    have d20 := dn_tup (K := K) n20 [V.ref a19, V.int (0)] [PyData.list [], PyData.int (0)] (.cons (Dp.same (s20) d19) (.cons (.int (0)) .nil))
    refine ⟨sl_of (show 5 ≤ 1000000 by decide), fun a21 n21 => ?_⟩
    have s21 := same_new n21 (o := HO.lst [V.ref a12, V.ref a15, V.ref a18, V.str "step 1", V.ref a20])
    refine ⟨a10, a21, _, _, rfl, rfl, (((((((((((s11).trans s12).trans s13).trans s14).trans s15).trans s16).trans s17).trans s18).trans s19).trans s20).trans s21) _ _ upd_same, upd_same, sl_of (show 19 ≤ 1000000 by decide), fun a22 n22 => ?_⟩
    have s22 := same_new n22 (o := HO.lst [V.non, V.bl true, V.bl false, V.int (0), V.int (1), V.int (-1), V.str "", V.str "0", V.ref a1, V.ref a2, V.ref a3, V.ref a5, V.ref a7, V.ref a9, V.ref a12, V.ref a15, V.ref a18, V.str "step 1", V.ref a20])
    refine ⟨_, rfl, _, rfl, ?_⟩
    refine ⟨sl_of (show 0 ≤ 1000000 by decide), fun a23 n23 => ?_⟩
    have s23 := same_new n23 (o := HO.tup [])
    have d23 := dn_tup (K := K) n23 [] [] .nil
    refine ⟨sl_of (show 2 ≤ 1000000 by decide), fun a24 n24 => ?_⟩
    have s24 := same_new n24 (o := HO.tup [V.ref a23, V.str "0"])
    have d24 := dn_tup (K := K) n24 [V.ref a23, V.str "0"] [PyData.tuple [], PyData.str "0"] (.cons (Dp.same (s24) d23) (.cons (.str "0") .nil))
    refine ⟨sl_of (show 0 ≤ 1000000 by decide), fun a25 n25 => ?_⟩
    have s25 := same_new n25 (o := HO.tup [])
    have d25 := dn_tup (K := K) n25 [] [] .nil
    refine ⟨sl_of (show 3 ≤ 1000000 by decide), fun a26 n26 => ?_⟩
    have s26 := same_new n26 (o := HO.tup [V.ref a25, V.int (0), V.int (0)])
    have d26 := dn_tup (K := K) n26 [V.ref a25, V.int (0), V.int (0)] [PyData.tuple [], PyData.int (0), PyData.int (0)] (.cons (Dp.same (s26) d25) (.cons (.int (0)) (.cons (.int (0)) .nil)))
    refine ⟨sl_of (show 2 ≤ 1000000 by decide), fun a27 n27 => ?_⟩
    have s27 := same_new n27 (o := HO.lst [V.ref a24, V.ref a26])
    refine ⟨a22, a27, _, _, rfl, rfl, (((((s23).trans s24).trans s25).trans s26).trans s27) _ _ upd_same, upd_same, sl_of (show 21 ≤ 1000000 by decide), fun a28 n28 => ?_⟩
    have s28 := same_new n28 (o := HO.lst [V.non, V.bl true, V.bl false, V.int (0), V.int (1), V.int (-1), V.str "", V.str "0", V.ref a1, V.ref a2, V.ref a3, V.ref a5, V.ref a7, V.ref a9, V.ref a12, V.ref a15, V.ref a18, V.str "step 1", V.ref a20, V.ref a24, V.ref a26])
    have E28 := same_top n28 (HO.lst [V.non, V.bl true, V.bl false, V.int (0), V.int (1), V.int (-1), V.str "", V.str "0", V.ref a1, V.ref a2, V.ref a3, V.ref a5, V.ref a7, V.ref a9, V.ref a12, V.ref a15, V.ref a18, V.str "step 1", V.ref a20, V.ref a24, V.ref a26])
    have E27 := s28.trans E28
    have E26 := s27.trans E27
    have E25 := s26.trans E26
    have E24 := s25.trans E25
    have E23 := s24.trans E24
    have E22 := s23.trans E23
    have E21 := s22.trans E22
    have E20 := s21.trans E21
    have E19 := s20.trans E20
    have E18 := s19.trans E19
    have E17 := s18.trans E18
    have E16 := s17.trans E17
    have E15 := s16.trans E16
    have E14 := s15.trans E15
    have E13 := s14.trans E14
    have E12 := s13.trans E13
    have E11 := s12.trans E12
    have E10 := s11.trans E11
    have E9 := s10.trans E10
    have E8 := s9.trans E9
    have E7 := s8.trans E8
    have E6 := s7.trans E7
    have E5 := s6.trans E6
    have E4 := s5.trans E5
    have E3 := s4.trans E4
    have E2 := s3.trans E3
    have E1 := s2.trans E2
    have E0 := s1.trans E1
    have G := (good_cons (⟨PyData.none, .inl .non, shw_of (by decide +kernel)⟩) (good_cons (⟨PyData.bool true, .inl (.bl true), shw_of (by decide +kernel)⟩) (good_cons (⟨PyData.bool false, .inl (.bl false), shw_of (by decide +kernel)⟩) (good_cons (⟨PyData.int (0), .inl (.int (0)), shw_of (by decide +kernel)⟩) (good_cons (⟨PyData.int (1), .inl (.int (1)), shw_of (by decide +kernel)⟩) (good_cons (⟨PyData.int (-1), .inl (.int (-1)), shw_of (by decide +kernel)⟩) (good_cons (⟨PyData.str "", .inl (.str ""), shw_of (by decide +kernel)⟩) (good_cons (⟨PyData.str "0", .inl (.str "0"), shw_of (by decide +kernel)⟩) (good_cons (Good.same E1 ⟨_, .inl d1, shw_of (by decide +kernel)⟩) (good_cons (Good.same E2 ⟨_, d2, shw_of (by decide +kernel)⟩) (good_cons (Good.same E3 ⟨_, .inl d3, shw_of (by decide +kernel)⟩) (good_cons (Good.same E5 ⟨_, .inl d5, shw_of (by decide +kernel)⟩) (good_cons (Good.same E7 ⟨_, .inl d7, shw_of (by decide +kernel)⟩) (good_cons (Good.same E9 ⟨_, .inl d9, shw_of (by decide +kernel)⟩) (good_cons (Good.same E12 ⟨_, .inl d12, shw_of (by decide +kernel)⟩) (good_cons (Good.same E15 ⟨_, .inl d15, shw_of (by decide +kernel)⟩) (good_cons (Good.same E18 ⟨_, .inl d18, shw_of (by decide +kernel)⟩) (good_cons (⟨PyData.str "step 1", .inl (.str "step 1"), shw_of (by decide +kernel)⟩) (good_cons (Good.same E20 ⟨_, .inl d20, shw_of (by decide +kernel)⟩) (good_cons (Good.same E24 ⟨_, .inl d24, shw_of (by decide +kernel)⟩) (good_cons (Good.same E26 ⟨_, .inl d26, shw_of (by decide +kernel)⟩) good_nil)))))))))))))))))))))
    have pen1 := pen.same E0
    exact ⟨p, c, a28, n, _, rfl, pen1, by omega, upd_same, (show 0 < 21 by decide), (show 21 ≤ 100000 by decide), fun v H2 hv kp pen2 => k v H2 ((Same.kp E0).trans kp) pen2 (Good.kp pen1 kp (G v hv))⟩
theorem sc__law_pairs : FnScope ["_law_pen_here", "_law_prime_here", "_law_reach", "_law_pairs_here", "_law_k", "_law_pair"] ["_law_pen_here", "_law_prime_here"] (defScope s__law_pairs) := ⟨rfl, rfl, rfl, by decide +kernel, rfl, by decide +kernel, by decide +kernel⟩
theorem ok__law_pairs {f : Addr} {fd : FuncData} (F : Fun K "_law_pairs" "_law_pairs" s__law_pairs f fd) (B : Blt mg) (C__law_draw : Cal P w K mg base 1 "_law_draw" sp__law_draw) (C__law_pick : Cal P w K mg base 2 "_law_pick" sp__law_pick) (C__law_integer : Cal P w K mg base 2 "_law_integer" sp__law_integer) (C__law_shuffled : Cal P w K mg base 2 "_law_shuffled" (sp__law_shuffled K)) : FnOk P w K mg base CX0 3 f fd ["_law_pen_here", "_law_prime_here"] (sp__law_pairs1 K) := by
  refine F.ok sc__law_pairs (fun vs H Q E h => ?_) (fun cdv A outer s H vs Q E hr h => ?_)
  · obtain ⟨p, c, q, n, rfl, _⟩ := h
    rfl
  · obtain ⟨p, c, q, n, rfl, hq, hq2, pen, hn, k⟩ := h
    have nd := sc__law_pairs.nd
    refine ⟨_, (pss_cons (ps_par (i := 2) (j := 3) (by rfl) nd rfl rfl (by decide) rfl rfl (pa_cons (pe_c C__law_pick hr (by decide) (by rfl) (pa_cons (pv 0) (pa_cons (pe_lst (pa_cons pe_int (pa_cons pe_int (pa_cons (pe_op op_pow pe_int pe_int) pa_nil)))) pa_nil))) (pa_cons (pe_lst pa_nil) pa_nil)) (by rfl))
    (pss_cons (ps_for PassesOwn.never rfl (pi_range1 (by rfl) B.range (pa_cons (pe_c C__law_draw hr (by decide) (by rfl) (pa_cons (pv 0) (pa_cons pe_int pa_nil))) pa_nil)) (pg_name (i := 4) nd rfl (.inl rfl))
      (pss_cons (ps_set (i := 5) nd rfl (.inl rfl) (pe_tup (pa_cons (pe_c C__law_integer hr (by decide) (by rfl) (pa_cons (pv 0) (pa_cons (pv 2) pa_nil))) (pa_cons (pe_c C__law_integer hr (by decide) (by rfl) (pa_cons (pv 0) (pa_cons (pe_c C__law_pick hr (by decide) (by rfl) (pa_cons (pv 0) (pa_cons (pe_lst (pa_cons (pv 1) (pa_cons (pe_op op_mul pe_int (pv 1)) (pa_cons (pe_op op_pow pe_int pe_int) pa_nil)))) pa_nil))) pa_nil))) pa_nil))))
    (pss_cons (ps_expr (pe_bm PySem.F.plainAttrs_list PySem.F.slot_list_append PySem.F.type_list_append mt_append (pv 3) (pa_cons (pv 5) pa_nil)))
    (pss_one (ps_if (pt_cmpR op_eq (pe_c C__law_draw hr (by decide) (by rfl) (pa_cons (pv 0) (pa_cons pe_int pa_nil))) pe_int (nomark _))
      (pss_one (ps_expr (pe_bm PySem.F.plainAttrs_list PySem.F.slot_list_append PySem.F.type_list_append mt_append (pv 3) (pa_cons (pe_tup (pa_cons (pe_ix ix_tup (pv 5) pe_int (fun _ _ => rfl)) (pa_cons (pe_c C__law_pick hr (by decide) (by rfl) (pa_cons (pv 0) (pa_cons (pe_lst (pa_cons (pe_un un_neg (pe_ix ix_tup (pv 5) pe_int (fun _ _ => rfl))) (pa_cons (pe_op op_sub (pv 1) (pe_ix ix_tup (pv 5) pe_int (fun _ _ => rfl))) (pa_cons pe_int pa_nil)))) pa_nil))) pa_nil))) pa_nil))))
      pss_nil)))))
    (pss_one (ps_ret (pe_c C__law_shuffled hr (by decide) (by rfl) (pa_cons (pv 0) (pa_cons (pv 3) pa_nil))))))), ?_⟩
    refine ⟨_, rfl, 10, 29, rfl, rfl, ⟨by decide, by decide, by decide⟩, sl_of (show 3 ≤ 1000000 by decide), fun o no => ?_⟩
    refine ⟨p, c, o, _, _, rfl, pen.same (same_new no), by omega, upd_same, (show 0 < 3 by decide), (show 3 ≤ 100000 by decide), fun rv H1 hrv k1 pen1 => ?_⟩
    obtain ⟨reach, rfl, hre, hre2⟩ := mem_ints (ns := [3, 40, 10 ^ 29]) (R := fun x => 0 ≤ x ∧ x ≤ 10 ^ 29) hrv (by decide +kernel)
    refine ⟨Nat.zero_le _, fun D nD => ⟨_, _, rfl, ?_⟩⟩
    have zD := same_new nD (o := HO.lst [])
    have kk1 : Kp p H H1 := (Same.kp (same_new no)).trans k1
    have nD0 : H D = none := by
      cases hx : H D with
      | none => rfl
      | some o =>
        have hDp : D ≠ p := fun e => by
          obtain ⟨kvs, hp⟩ := pen1.dict
          rw [e, hp] at nD
          cases nD
        rw [kk1 _ _ hDp hx] at nD
        cases nD
    have Dp' := pen.np nD0
    have Dc := pen.nc nD0
    have reb : reach.natAbs < 10 ^ 90 := Nat.lt_of_le_of_lt (show reach.natAbs ≤ 10 ^ 29 by omega) (by decide +kernel)
    refine ⟨_, rfl, p, c, 9, _, rfl, by decide, by decide, pen1.same zD, by omega, fun m H2 m0 m9 k2 pen2 => ?_⟩
    refine ⟨m, rfl, by omega, by omega, for_range (lo := 0) (n := m.toNat) (fun i σ H3 => ∃ (ys : List V) (g : Pol) (y4 y5 : Option V), σ = [some (.ref p), some (.int q), some (.int reach), some (.ref D), y4, y5] ∧ Kp p H H3 ∧ PenAt H3 p c (n + 2 + 8 * i) ∧ H3 D = some (.lst ys) ∧ Prs K H3 ys g ∧ g.length ≤ 2 * i ∧ PsB g) ?_ ?_ ?_⟩
    · exact ⟨[], [], none, none, rfl, kk1.trans ((Same.kp zD).trans k2), pen2, k2 _ _ Dp' upd_same, .nil, Nat.zero_le _, fun t h => absurd h List.not_mem_nil⟩
    · rintro i σ H3 hi ⟨ys, g, y4, y5, rfl, k3, pen3, hD3, hg, lg, pb⟩
      have hyl := hg.len
      refine ⟨_, rfl, _, rfl, p, c, reach, _, rfl, hre, reb, pen3, by omega, fun e H4 he k4 pen4 => ?_⟩
      refine ⟨_, rfl, _, rfl, _, rfl, _, rfl, 3, q, rfl, rfl, .inl ⟨by decide, by decide⟩, 10, 29, rfl, rfl, ⟨by decide, by decide, by decide⟩, sl_of (show 3 ≤ 1000000 by decide), fun o2 no2 => ?_⟩
      have z2 := same_new no2 (o := HO.lst [V.int q, V.int (3 * q), V.int (10 ^ 29)])
      refine ⟨p, c, o2, _, [V.int q, V.int (3 * q), V.int (10 ^ 29)], rfl, pen4.same z2, by omega, upd_same, (show 0 < 3 by decide), (show 3 ≤ 100000 by decide), fun mv H5 hmv k5 pen5 => ?_⟩
      obtain ⟨mc, rfl, hm0, hm9⟩ := mem_ints (ns := [q, 3 * q, 10 ^ 29]) (R := fun x => 0 ≤ x ∧ x ≤ 10 ^ 29) hmv (fun x hx => by
        rcases List.mem_cons.mp hx with h | hx
        · rw [h]; omega
        rcases List.mem_cons.mp hx with h | hx
        · rw [h]; omega
        · rw [List.mem_singleton.mp hx]; decide)
      refine ⟨p, c, mc, _, rfl, hm0, Nat.lt_of_le_of_lt (show mc.natAbs ≤ 10 ^ 29 by omega) (by decide +kernel), pen5, by omega, fun co H6 hco k6 pen6 => ?_⟩
      refine ⟨sl_of (show 2 ≤ 1000000 by decide), fun t nt => ?_⟩
      have z3 := same_new nt (o := HO.tup [V.int e, V.int co])
      have kA : Kp p H3 (upd H6 t (HO.tup [V.int e, V.int co])) := k4.trans ((Same.kp z2).trans (k5.trans (k6.trans (Same.kp z3))))
      have tA := pen3.tp kA
      have hDA := kA _ _ Dp' hD3
      have penA := pen6.same z3
      have hgA := Prs.tp tA hg
      have hpr : IsPr K (upd H6 t (HO.tup [V.int e, V.int co])) (.ref t) (e, co) := isPr_new (t := (e, co))
      refine ⟨_, rfl, .inl ⟨rfl, _, SqL.of hDA⟩, _, rfl, D, ys, _, rfl, rfl, hDA, sl_lt (by omega), ?_⟩
      have tB : Tp (upd H6 t (HO.tup [V.int e, V.int co])) (upd (upd H6 t (HO.tup [V.int e, V.int co])) D (.lst (ys ++ [.ref t]))) := tp_lst hDA
      have kB : Kp p H (upd (upd H6 t (HO.tup [V.int e, V.int co])) D (.lst (ys ++ [.ref t]))) := fun x o nx ex => by
        rw [upd_ne (ne_of_none ex nD0)]
        exact kA _ _ nx (k3 _ _ nx ex)
      have hDB : upd (upd H6 t (HO.tup [V.int e, V.int co])) D (.lst (ys ++ [.ref t])) D = some (.lst (ys ++ [.ref t])) := upd_same
      have hgB : Prs K (upd (upd H6 t (HO.tup [V.int e, V.int co])) D (.lst (ys ++ [.ref t]))) (ys ++ [.ref t]) (g ++ [(e, co)]) := Prs.snoc (Prs.tp tB hgA) (hpr.tp tB)
      have hprB := hpr.tp tB
      have penB := penA.upd (o := HO.lst (ys ++ [.ref t])) Dp' Dc
      generalize upd (upd H6 t (HO.tup [V.int e, V.int co])) D (.lst (ys ++ [.ref t])) = HB at kB hDB hgB hprB penB ⊢
      have eb : e.natAbs ≤ 10 ^ 31 := Nat.le_trans he (Nat.le_trans (show reach.natAbs ≤ 10 ^ 29 by omega) (by decide))
      have cb : co.natAbs ≤ 10 ^ 29 := Nat.le_trans hco (by omega)
      have pbB : PsB (g ++ [(e, co)]) := fun u hu => by
        rcases List.mem_append.mp hu with h | h
        · exact pb u h
        · rw [List.mem_singleton.mp h]
          exact ⟨eb, Nat.le_trans cb (by decide)⟩
      refine ⟨_, rfl, p, c, 3, _, rfl, by decide, by decide, penB, by omega, fun r H7 r0 r9 k7 pen7 => ?_⟩
      have hD7 := k7 _ _ Dp' hDB
      have t7 := penB.tp k7
      have hg7 := Prs.tp t7 hgB
      obtain ⟨t', et, hpt⟩ := hprB.tp t7
      cases et
      refine ⟨rfl, _, rfl, ite2 (fun _ => ?_) fun _ => ?_⟩
      · refine ⟨_, rfl, .inl ⟨rfl, _, SqL.of hD7⟩, _, rfl, t, _, 0, _, rfl, rfl, hpt, rfl, _, rfl, _, rfl, t, _, 1, _, rfl, rfl, hpt, rfl, co, rfl, _, rfl, _, rfl, t, _, 1, _, rfl, rfl, hpt, rfl, q, co, rfl, rfl, sl_of (show 3 ≤ 1000000 by decide), fun o3 no3 => ?_⟩
        have z4 := same_new no3 (o := HO.lst [V.int (-co), V.int (q - co), V.int 1])
        refine ⟨p, c, o3, _, [V.int (-co), V.int (q - co), V.int 1], rfl, pen7.same z4, by omega, upd_same, (show 0 < 3 by decide), (show 3 ≤ 100000 by decide), fun cv H8 hcv k8 pen8 => ?_⟩
        obtain ⟨c2, rfl, hc2⟩ := mem_ints (ns := [-co, q - co, 1]) (R := fun x => x.natAbs ≤ 10 ^ 31) hcv (fun x hx => by
          rcases List.mem_cons.mp hx with h | hx
          · rw [h]; omega
          rcases List.mem_cons.mp hx with h | hx
          · rw [h]; omega
          · rw [List.mem_singleton.mp hx]; decide)
        refine ⟨sl_of (show 2 ≤ 1000000 by decide), fun t2 nt2 => ?_⟩
        have z5 := same_new nt2 (o := HO.tup [V.int e, V.int c2])
        have kC : Kp p H7 (upd H8 t2 (HO.tup [V.int e, V.int c2])) := (Same.kp z4).trans (k8.trans (Same.kp z5))
        have hDC := kC _ _ Dp' hD7
        have tC' := pen7.tp kC
        refine ⟨D, _, _, rfl, rfl, hDC, sl_lt (by rw [List.length_append]; show ys.length + 1 ≤ _; omega), ?_⟩
        have tE : Tp (upd H8 t2 (HO.tup [V.int e, V.int c2])) (upd (upd H8 t2 (HO.tup [V.int e, V.int c2])) D (.lst ((ys ++ [.ref t]) ++ [.ref t2]))) := tp_lst hDC
        refine ⟨(ys ++ [.ref t]) ++ [.ref t2], (g ++ [(e, co)]) ++ [(e, c2)], _, _, rfl, fun x o nx ex => ?_, ((pen8.same z5).upd Dp' Dc).mono (by omega), upd_same, Prs.snoc (Prs.tp (tC'.trans tE) hg7) (IsPr.tp tE (isPr_new (t := (e, c2)))), by rw [List.length_append, List.length_append]; show g.length + 1 + 1 ≤ _; omega, fun u hu => ?_⟩
        · rw [upd_ne (ne_of_none ex nD0)]
          exact kC _ _ nx (k7 _ _ nx (kB _ _ nx ex))
        · rcases List.mem_append.mp hu with h | h
          · exact pbB u h
          · rw [List.mem_singleton.mp h]
            exact ⟨eb, hc2⟩
      · exact ⟨ys ++ [.ref t], g ++ [(e, co)], _, _, rfl, kB.trans k7, pen7.mono (by omega), hD7, hg7, by rw [List.length_append]; show g.length + 1 ≤ _; omega, pbB⟩
    · rintro σ H3 ⟨ys, g, y4, y5, rfl, k3, pen3, hD3, hg, lg, pb⟩
      refine ⟨_, rfl, _, rfl, p, c, _, .ref D, g, rfl, .inr ⟨D, ys, rfl, SqL.of hD3, hg⟩, by omega, pen3, by omega, fun D2 zs h H4 k4 pen4 _ hD4 hh hp => ?_⟩
      refine k D2 zs h H4 (k3.trans k4) (pen4.mono (by omega)) hD4 hh (by rw [hp.length_eq]; omega) fun t ht => pb t (hp.mem_iff.mp ht)
theorem sc__law_is_normal : FnScope ["_law_prime_here", "_law_value", "_law_term", "_law_number", "_law_k"] ["_law_prime_here", "_law_value"] (defScope s__law_is_normal) := ⟨rfl, rfl, rfl, by decide +kernel, rfl, by decide +kernel, by decide +kernel⟩
theorem ix_tupS {X : Cx} (K : PySem.W.Frag) (h : X.K = K) : IxR X (rIxT K) := h ▸ ix_tup
theorem poly_bad {p : Int} {ds : List PyData} {i : Nat} {d : PyData} (h : ds[i]? = some d) (hb : isTerm p d = false) : isPoly p (.tuple ds) = false := by
  show (ds.all (isTerm p) && ascD ds) = false
  have : ds.all (isTerm p) = false := by
    rw [List.all_eq_false]
    exact ⟨d, List.mem_of_getElem? h, by rw [hb]; decide⟩
  rw [this, Bool.false_and]
theorem iteNW {c A B : Prop} [Decidable c] (hc : ¬ c) (h : A) : if (!decide c) = true then A else B := by
  rw [decide_eq_false hc]
  exact h
theorem term_bad {p : Int} {es : List PyData} {j : Nat} {d : PyData} (h : es[j]? = some d) (hb : isWhole d = false) : isTerm p (.tuple es) = false := by
  unfold isTerm
  split
  · rename_i e c heq
    cases PyData.tuple.inj heq
    rcases j with _ | _ | j
    · simp at h
      subst h
      cases hb
    · simp at h
      subst h
      cases hb
    · simp at h
  · rfl
theorem whole_inv {d : PyData} (h : isWhole d = true) : ∃ i, d = .int i := by
  cases d <;> first | exact ⟨_, rfl⟩ | cases h
theorem ok__law_is_normal {f : Addr} {fd : FuncData} (F : Fun K "_law_is_normal" "_law_is_normal" s__law_is_normal f fd) (B : Blt mg) : FnOk P w K mg base CX0 1 f fd ["_law_prime_here", "_law_value"] (sp_is_polynomial K) := by
  refine F.ok sc__law_is_normal (fun vs H Q E h => ?_) (fun cdv A outer s H vs Q E hr h => ?_)
  · obtain ⟨p, v, d, rfl, _⟩ := h
    rfl
  · obtain ⟨p, v, d, rfl, hd, hlen, k⟩ := h
    have nd := sc__law_is_normal.nd
    have hu2 := hr.units
    refine ⟨_, (pss_cons (ps_if (pt_not (pt_val (pe_callB call_isi (by rfl) B.isinstance (by decide +kernel) (pa_cons (pv 1) (pa_cons (pe_bltn (v := .ty "tuple") (u := .type "tuple") (by rfl) B.tuple (by decide +kernel) rfl) pa_nil)))))
      (pss_one (ps_ret pe_bl))
      pss_nil)
    (pss_cons (ps_for PassesOwn.never rfl (pi_tup (pv 1)) (pg_name (i := 2) nd rfl (.inl rfl))
      (pss_cons (ps_if (PW.pt (pw_or (pt_not (pt_val (pe_callB call_isi (by rfl) B.isinstance (by decide +kernel) (pa_cons (pv 2) (pa_cons (pe_bltn (v := .ty "tuple") (u := .type "tuple") (by rfl) B.tuple (by decide +kernel) rfl) pa_nil))))) (pw_or1 (pt_cmpR op_ne (pe_callB call_len_seq (by rfl) B.len (by decide +kernel) (pa_cons (pv 2) pa_nil)) pe_int (nomark _)))))
      (pss_one (ps_ret pe_bl))
      pss_nil)
    (pss_cons (ps_for PassesOwn.never rfl (pi_tup (pv 2)) (pg_name (i := 3) nd rfl (.inl rfl))
      (pss_one (ps_if (PW.pt (pw_or (pt_not (pt_val (pe_callB call_isi (by rfl) B.isinstance (by decide +kernel) (pa_cons (pv 3) (pa_cons (pe_bltn (v := .ty "int") (u := .type "int") (by rfl) B.int (by decide +kernel) rfl) pa_nil))))) (pw_or1 (pt_val (pe_callB call_isi (by rfl) B.isinstance (by decide +kernel) (pa_cons (pv 3) (pa_cons (pe_bltn (v := .ty "bool") (u := .type "bool") (by rfl) B.bool (by decide +kernel) rfl) pa_nil)))))))
      (pss_one (ps_ret pe_bl))
      pss_nil)))
    (pss_one (ps_if (pt_not (pt_chain op_le op_lt pe_int (pe_ix ix_tup (pv 2) pe_int (fun _ _ => rfl)) (pv 0)))
      (pss_one (ps_ret pe_bl))
      pss_nil)))))
    (pss_one (ps_ret (pe_cmpR (op_eqD hu2) (pe_lc (own := [("_law_k", 4)]) (by rfl) nd (pi_range2 (by rfl) B.range (pa_cons pe_int (pa_cons (pe_callB call_len_seq (by rfl) B.len (by decide +kernel) (pa_cons (pv 1) pa_nil)) pa_nil))) (blkOk_by (N := ["_law_prime_here", "_law_value", "_law_term", "_law_number", "_law_k"]) (sc := defScope s__law_is_normal) (own := [("_law_k", 4)]) (by decide +kernel)) (fun _ _ _ _ _ => (pg_name (i := 4) nd rfl (.inl rfl))) (fun _ _ _ _ _ => (pts_one (pt_cmpR op_ge (pe_ix (ix_tupS K rfl) (pe_ix (ix_tupS K rfl) (pv 1) (pe_op op_sub (pv 4) pe_int) (fun _ _ => rfl)) pe_int (fun _ _ => rfl)) (pe_ix (ix_tupS K rfl) (pe_ix (ix_tupS K rfl) (pv 1) (pv 4) (fun _ _ => rfl)) pe_int (fun _ _ => rfl)) (nomark _)))) (fun _ _ _ _ _ => (pv 4))) (pe_lst pa_nil) (nomark _)))))), ?_⟩
    refine ⟨_, rfl, v, .ty "tuple", _, _, _, rfl, .ty "tuple", DpX.ty hd, kit_tuple d, _, rfl, ?_⟩
    cases ht : isTup d with
    | false =>
      refine iteT ?_
      have e : isPoly p d = false := by
        cases d <;> first | rfl | cases ht
      rw [e] at k
      exact k H (Same.refl H)
    | true =>
      refine iteF ?_
      obtain ⟨ds, rfl⟩ := isTup_inv ht
      have hl := hlen ds rfl
      have hd' : Dp K H v (.tuple ds) := hd.elim id fun ⟨_, _, _, e⟩ => by cases e
      obtain ⟨a, xs, rfl, hs, ha⟩ := Dp.tup_inv hd'
      have hxl := DpAll.len ha
      have k0 := k H (Same.refl H)
      refine ⟨_, rfl, a, rfl, ⟨_, hs⟩, for_tup (K := K) (a := a) (xs := xs) (fun i σ H2 => ∃ (y2 y3 : Option V), σ = [some (.int p), some (.ref a), y2, y3, none] ∧ H2 = H ∧ (ds.take i).all (isTerm p) = true) ⟨_, _, rfl, rfl, by rw [List.take_zero]; rfl⟩ ?_ ?_ ?_⟩
      · rintro i σ H2 _ ⟨_, _, _, rfl, _⟩
        exact hs
      · rintro i x σ H2 hi ⟨y2, y3, rfl, rfl, hall⟩
        obtain ⟨t, htd, hx⟩ := DpAll.get ha hi
        have bad : isTerm p t = false → Q (.bl false) H2 := fun hb => by
          rw [poly_bad htd hb] at k0
          exact k0
        refine ⟨_, rfl, x, .ty "tuple", _, _, _, rfl, .ty "tuple", Dp.ty hx, kit_tuple t, _, rfl, ?_⟩
        cases htt : isTup t with
        | false =>
          refine iteT ?_
          refine iteT ?_
          exact bad (by cases t <;> first | rfl | cases htt)
        | true =>
          refine iteF ?_
          obtain ⟨es, rfl⟩ := isTup_inv htt
          obtain ⟨b, ys, rfl, hsb, hb⟩ := Dp.tup_inv hx
          have hyl := DpAll.len hb
          refine ⟨_, rfl, b, ys, rfl, .inr hsb, rfl, _, rfl, ?_⟩
          by_cases h2 : es.length = 2
          · have hy2 : ys.length = 2 := by omega
            refine iteNS (by rw [hy2]; rfl) ?_
            have badj : ∀ (j : Nat) (d' : PyData), es[j]? = some d' → isWhole d' = false → Q (.bl false) H2 := fun j d' h1 h3 => bad (term_bad h1 h3)
            refine ⟨_, rfl, b, rfl, ⟨_, hsb⟩, for_tup (K := K) (a := b) (xs := ys) (fun j σ H3 => ∃ (y3 : Option V), σ = [some (.int p), some (.ref a), some (.ref b), y3, none] ∧ H3 = H2 ∧ (es.take j).all isWhole = true) ⟨_, rfl, rfl, by rw [List.take_zero]; rfl⟩ ?_ ?_ ?_⟩
            · rintro j σ H3 _ ⟨_, _, rfl, _⟩
              exact hsb
            · rintro j u σ H3 hj ⟨y3', rfl, rfl, hw⟩
              obtain ⟨d', hd', hu⟩ := DpAll.get hb hj
              refine ⟨_, rfl, u, .ty "int", _, _, _, rfl, .ty "int", Dp.ty hu, kit_int d', _, rfl, ?_⟩
              cases hi' : isInt' d' with
              | false =>
                refine iteT ?_
                refine iteT ?_
                exact badj j d' hd' (by cases d' <;> first | rfl | cases hi')
              | true =>
                refine iteF ?_
                refine ⟨_, rfl, u, .ty "bool", _, _, _, rfl, .ty "bool", Dp.ty hu, kit_bool d', _, rfl, ?_⟩
                cases hb' : isBool d' with
                | true =>
                  refine iteT ?_
                  exact badj j d' hd' (by cases d' <;> first | rfl | cases hb')
                | false =>
                  refine iteF ?_
                  refine ⟨_, rfl, rfl, ?_⟩
                  have hwd : isWhole d' = true := by cases d' <;> first | rfl | (cases hi'; done) | (cases hb'; done)
                  obtain ⟨hjl, ej⟩ := List.getElem?_eq_some_iff.mp hd'
                  rw [List.take_succ_eq_append_getElem hjl, List.all_append, hw, ej, List.all_cons, hwd]
                  rfl
            · rintro σ H3 ⟨y3', rfl, rfl, hw⟩
              rw [hy2, List.take_of_length_le (by omega)] at hw
              obtain ⟨d1, d2, rfl⟩ := two h2
              simp only [List.all_cons, List.all_nil, Bool.and_true, Bool.and_eq_true] at hw
              obtain ⟨e1, rfl⟩ := whole_inv hw.1
              obtain ⟨c1, rfl⟩ := whole_inv hw.2
              obtain ⟨u1, u2, rfl⟩ := two hy2
              have hu12 : u1 = .int e1 ∧ u2 = .int c1 := by
                cases hb with
                | cons h1 t =>
                  cases t with
                  | cons h3 _ => exact ⟨Dp.int_inv h1, Dp.int_inv h3⟩
              rw [hu12.1, hu12.2] at hsb
              have et : isTerm p (.tuple [.int e1, .int c1]) = (decide (1 ≤ c1) && decide (c1 < p)) := rfl
              rw [et] at bad
              have next : (decide (1 ≤ c1) && decide (c1 < p)) = true → (ds.take (i + 1)).all (isTerm p) = true := fun h => by
                obtain ⟨hil, ei⟩ := List.getElem?_eq_some_iff.mp htd
                rw [List.take_succ_eq_append_getElem hil, List.all_append, hall, ei, List.all_cons, et, h]
                rfl
              refine ⟨_, rfl, b, _, 1, _, rfl, rfl, hsb, rfl, 1, c1, rfl, rfl, _, rfl, ?_⟩
              refine ite2 (fun z => ?_) (fun z => ?_)
              · have z1 : 1 ≤ c1 := of_decide_eq_true z
                refine ⟨_, rfl, c1, p, rfl, rfl, _, rfl, ?_⟩
                by_cases z2 : c1 < p
                · rw [decide_eq_true z2]
                  refine iteF ?_
                  exact ⟨_, _, rfl, rfl, next (by rw [decide_eq_true z1, decide_eq_true z2]; rfl)⟩
                · rw [decide_eq_false z2]
                  refine iteT ?_
                  exact bad (by rw [decide_eq_false z2, Bool.and_false])
              · have z1 : ¬ 1 ≤ c1 := fun y => z (decide_eq_true y)
                refine ⟨_, rfl, ?_⟩
                refine iteT ?_
                exact bad (by rw [decide_eq_false z1, Bool.false_and])
          · refine iteNW (fun z => h2 (by injection z; omega)) ?_
            refine bad ?_
            unfold isTerm
            split
            · rename_i e c heq
              cases PyData.tuple.inj heq
              exact absurd rfl h2
            · rfl
      · rintro σ H2 ⟨y2, y3, rfl, rfl, hall⟩
        rw [hxl, List.take_length] at hall
        have ek : isPoly p (.tuple ds) = ascD ds := by
          show (ds.all (isTerm p) && ascD ds) = _
          rw [hall, Bool.true_and]
        rw [ek] at k
        have hterm : ∀ d ∈ ds, ∃ e c, d = .tuple [.int e, .int c] := fun d hd => by
          obtain ⟨e, c, h, _⟩ := isTerm_inv (List.all_eq_true.mp hall d hd)
          exact ⟨e, c, h⟩
        refine ⟨_, rfl, a, xs, rfl, .inr hs, 1, _, rfl, ?_⟩
        refine ⟨⟨by decide, by decide, by omega, by omega⟩, fun D nD => lc_range (lo := 1) (n := ((xs.length : Int) - 1).toNat) (fun m H3 => ∃ ks : List Int, H3 D = some (.lst (ks.map V.int)) ∧ Same H2 H3 ∧ ks.length ≤ m ∧ ks.isEmpty = ((ups ds).take m).all id) ⟨[], upd_same, same_new nD, Nat.zero_le _, by rw [List.take_zero]; rfl⟩ ?_ ?_⟩
        · rintro m H3 hm ⟨ks, hD, s3, lk, hk⟩
          refine ⟨rfl, ?_⟩
          have hm1 : m < xs.length := by omega
          have hm2 : m + 1 < xs.length := by omega
          obtain ⟨dx, gx, hx⟩ := DpAll.get ha (List.getElem?_eq_getElem hm1)
          obtain ⟨dy, gy, hy⟩ := DpAll.get ha (List.getElem?_eq_getElem hm2)
          have gu := ups_get ds m dx dy gx gy
          obtain ⟨e1, c1, rfl⟩ := hterm dx (List.mem_of_getElem? gx)
          obtain ⟨e2, c2, rfl⟩ := hterm dy (List.mem_of_getElem? gy)
          obtain ⟨bx, ex, hsx⟩ := Dp.pair_inv (Dp.same s3 hx)
          obtain ⟨by', ey, hsy⟩ := Dp.pair_inv (Dp.same s3 hy)
          refine ⟨_, rfl, _, rfl, 1 + (m : Int), 1, rfl, rfl, a, xs, (m : Int), xs[m], rfl, congrArg V.int (by omega), same_t s3 hs, atI_nat (List.getElem?_eq_getElem hm1), bx, _, 0, _, ex, rfl, hsx, rfl, ?_⟩
          refine ⟨_, rfl, _, rfl, a, xs, ((m + 1 : Nat) : Int), xs[m + 1], rfl, congrArg V.int (by omega), same_t s3 hs, atI_nat (List.getElem?_eq_getElem hm2), by', _, 0, _, ey, rfl, hsy, rfl, e1, e2, rfl, rfl, _, rfl, ?_⟩
          have hgu : (ups ds)[m]? = some (decide (e1 < e2)) := gu
          obtain ⟨hul, eu⟩ := List.getElem?_eq_some_iff.mp hgu
          have et : ((ups ds).take (m + 1)).all id = (((ups ds).take m).all id && decide (e1 < e2)) := by
            rw [List.take_succ_eq_append_getElem hul, List.all_append, eu]
            have e9 : [decide (e1 < e2)].all id = decide (e1 < e2) := by cases decide (e1 < e2) <;> rfl
            rw [e9]
          refine ite2 (fun z => ?_) (fun z => ?_)
          · have z1 : e2 ≤ e1 := of_decide_eq_true z
            refine ⟨_, rfl, _, hD, sl_lt (by rw [List.length_map]; omega), ks ++ [1 + (m : Int)], ?_, fun x o ex => ?_, by rw [List.length_append]; show ks.length + 1 ≤ _; omega, ?_⟩
            · rw [upd_same, List.map_append]
              rfl
            · rw [upd_ne (ne_of_none ex nD)]
              exact s3 _ _ ex
            · rw [et, decide_eq_false (by omega), Bool.and_false]
              cases ks <;> rfl
          · have z1 : ¬ e2 ≤ e1 := fun y => z (decide_eq_true y)
            refine ⟨ks, hD, s3, by omega, ?_⟩
            rw [et, decide_eq_true (by omega), Bool.and_true]
            exact hk
        · rintro H3 ⟨ks, hD, s3, lk, hk⟩
          have hul : (ups ds).length ≤ ((xs.length : Int) - 1).toNat := by
            have : ∀ l : List PyData, (ups l).length ≤ l.length - 1 := fun l => by
              induction l with
              | nil => exact Nat.le_refl _
              | cons x r ih =>
                cases r with
                | nil => exact Nat.zero_le _
                | cons y r =>
                  show (ups (y :: r)).length + 1 ≤ _
                  rw [List.length_cons] at ih ⊢
                  rw [List.length_cons] at *
                  omega
            have h1 := this ds
            omega
          rw [List.take_of_length_le hul, ups_all] at hk
          refine ⟨Nat.zero_le _, fun l nl => ?_⟩
          have z4 := same_new nl (o := HO.lst [])
          refine ⟨_, _, .lst (SqL.of (z4 _ _ hD)) (kl_dp ks), .lst (SqL.of upd_same) .nil, kl_shaped ks, rfl, ?_⟩
          rw [kl_eqv, hk]
          exact k _ (s3.trans z4)
theorem sc__law_changed : FnScope ["_law_pen_here", "_law_prime_here", "_law_polynomial", "_law_at", "_law_exponent", "_law_coefficient", "_law_odd", "_law_parts", "_law_changed_here", "_law_options"] ["_law_pen_here", "_law_prime_here", "_law_polynomial"] (defScope s__law_changed) := ⟨rfl, rfl, rfl, by decide +kernel, rfl, by decide +kernel, by decide +kernel⟩
theorem nice_c {d : PyData} (a : d.showable = true) (b : d.hasDict = false) (c : d.depth ≤ 1) (e : d.shown.length ≤ 300) (t : tupLen d ≤ 1000000) (i : ∀ ds, d = .tuple ds → ∀ x ∈ ds, tupLen x ≤ 1000000) : Nice 300 1 d := nice_of a b c e t i
theorem ok__law_changed {f : Addr} {fd : FuncData} (F : Fun K "_law_changed" "_law_changed" s__law_changed f fd) (B : Blt mg) (C__law_draw : Cal P w K mg base 1 "_law_draw" sp__law_draw) (C__law_pick : Cal P w K mg base 2 "_law_pick" sp__law_pick) : FnOk P w K mg base CX0 3 f fd ["_law_pen_here", "_law_prime_here", "_law_polynomial"] (sp__law_changed1 K) := by
  refine F.ok sc__law_changed (fun vs H Q E h => ?_) (fun cdv A outer s H vs Q E hr h => ?_)
  · obtain ⟨p, c, q, e, g, n, rfl, _⟩ := h
    rfl
  · obtain ⟨p, c, q, pv', g, n, rfl, hq, hq2, hT, hg0, hg, hb, pen, hn, k⟩ := h
    have nd := sc__law_changed.nd
    refine ⟨_, (pss_cons (ps_set (i := 3) nd rfl (.inl rfl) (pe_c C__law_draw hr (by decide) (by rfl) (pa_cons (pv 0) (pa_cons (pe_callB call_len_seq (by rfl) B.len (by decide +kernel) (pa_cons (pv 2) pa_nil)) pa_nil))))
    (pss_cons (ps_asg (pe_ix ix_tup (pv 2) (pv 3) (fun _ _ => rfl)) (pg_tup rfl (pgs_cons (pg_name (i := 4) nd rfl (.inl rfl)) (pgs_cons (pg_name (i := 5) nd rfl (.inl rfl)) pgs_nil))))
    (pss_cons (ps_set (i := 6) nd rfl (.inl rfl) (pe_c C__law_pick hr (by decide) (by rfl) (pa_cons (pv 0) (pa_cons (pe_lst (pa_cons pe_int (pa_cons (pv 1) (pa_cons (pe_un un_neg pe_int) (pa_cons pe_non (pa_cons pe_bl (pa_cons pe_str (pa_cons (pe_tup (pa_cons pe_int pa_nil)) (pa_cons (pe_op op_add (pv 5) (pv 1)) pa_nil))))))))) pa_nil))))
    (pss_cons (ps_set (i := 7) nd rfl (.inl rfl) (pe_lst (pa_cons (pe_tup (pa_cons (pv 4) (pa_cons (pv 6) pa_nil))) (pa_cons (pe_tup (pa_cons (pv 6) (pa_cons (pv 5) pa_nil))) (pa_cons (pe_lst (pa_cons (pv 4) (pa_cons (pv 5) pa_nil))) (pa_cons (pe_tup (pa_cons (pv 4) pa_nil)) (pa_cons (pe_tup (pa_cons (pv 4) (pa_cons (pv 5) (pa_cons pe_int pa_nil)))) (pa_cons (pv 6) pa_nil))))))))
    (pss_cons (ps_set (i := 8) nd rfl (.inl rfl) (pe_c C__law_pick hr (by decide) (by rfl) (pa_cons (pv 0) (pa_cons (pv 7) pa_nil))))
    (pss_cons (ps_set (i := 9) nd rfl (.inl rfl) (pe_lst (pa_cons (pe_op op_catA (pe_op op_catA (pe_slice sl_tupA (pv 2) po_none (po_some (pv 3))) (pe_tup (pa_cons (pv 8) pa_nil))) (pe_slice sl_tupA (pv 2) (po_some (pe_op op_add (pv 3) pe_int)) po_none)) (pa_cons (DRv.pe_revT (pv 2)) (pa_cons (pe_callTy call_list_of (by rfl) B.list (by decide +kernel) (pa_cons (pv 2) pa_nil)) pa_nil)))))
    (pss_one (ps_ret (pe_c C__law_pick hr (by decide) (by rfl) (pa_cons (pv 0) (pa_cons (pe_op op_cat (pv 9) (pe_lst (pa_cons (pe_op op_catA (pv 2) (pe_slice sl_tupA (pv 2) (po_some (pv 3)) (po_some (pe_op op_add (pv 3) pe_int)))) (pa_cons (pe_op op_catA (pe_slice sl_tupA (pv 2) po_none (po_some (pv 3))) (pe_slice sl_tupA (pv 2) (po_some (pe_op op_add (pv 3) pe_int)) po_none)) pa_nil)))) pa_nil))))))))))), ?_⟩
    have h100 : (10 : Nat) ^ 90 < 10 ^ 100 := by decide +kernel
    have tv0 : TV K H H pv' 16 := tv_pol (fun t ht => ⟨Nat.lt_trans (hb t ht).1 h100, Nat.lt_trans (hb t ht).2 h100⟩) hT hg
    obtain ⟨a, xs, rfl, hs, hP⟩ := hT
    have hxl := hP.len
    refine ⟨_, rfl, _, rfl, a, xs, rfl, .inr hs, p, c, _, n, rfl, by omega, Nat.lt_of_le_of_lt (show ((xs.length : Nat) : Int).natAbs ≤ 16 by omega) (by decide), pen, by omega, fun r H1 r0 r9 k1 pen1 => ?_⟩
    obtain ⟨i, rfl⟩ : ∃ i : Nat, r = (i : Int) := ⟨r.toNat, by omega⟩
    have hi : i < xs.length := by omega
    have t1 := pen.tp k1
    have hs1 := tp_t t1 hs
    obtain ⟨t, ht, b, eb, hbt⟩ := (Prs.tp t1 hP).get (List.getElem?_eq_getElem hi)
    obtain ⟨ex, co⟩ := t
    have htb := hb _ (List.mem_of_getElem? ht)
    have tv1 := tv0.kpd pen pen k1
    have A1 := (Al.refl H).kp k1 pen1
    refine ⟨_, rfl, _, rfl, a, xs, (i : Int), _, rfl, rfl, hs1, atI_nat (List.getElem?_eq_getElem hi), b, _, eb, hbt, rfl, _, _, rfl, _, _, rfl, rfl, ?_⟩
    -- odd
    refine ⟨_, rfl, _, rfl, 1, rfl, sl_of (show 1 ≤ 1000000 by decide), fun a1 na1 => ?_⟩
    have z1 := same_new na1 (o := HO.tup [V.int 1])
    have A2 := A1.same z1
    have o1 : FN 300 1 K (er H (upd H1 a1 (HO.tup [V.int 1]))) (V.ref a1) := (fn_t1 A1 na1 (fn_int (i := 1) (by decide))).up (by decide) (by decide)
    refine ⟨_, rfl, _, rfl, co, q, rfl, rfl, sl_of (show 8 ≤ 1000000 by decide), fun a2 na2 => ?_⟩
    have z2 := same_new na2 (o := HO.lst [V.int 0, V.int q, V.int (-1), V.non, V.bl true, V.str "1", V.ref a1, V.int (co + q)])
    have A3 := A2.same z2
    have o1 := o1.same (er_same z2)
    have G1 := all_cons (P := FN 300 1 K (er H _)) (l := _) ((fn_int (i := 0) (by decide)).up (by decide) (by decide)) (all_cons ((fn_int (i := q) (Nat.lt_of_le_of_lt (show q.natAbs ≤ 97 by omega) (by decide +kernel))).up (by decide) (by decide)) (all_cons ((fn_int (i := -1) (by decide)).up (by decide) (by decide)) (all_cons ⟨_, .non, nice_c (by decide +kernel) (by decide +kernel) (by decide +kernel) (by decide +kernel) (by decide +kernel) (fun ds z => by cases z)⟩ (all_cons ⟨_, .bl true, nice_c (by decide +kernel) (by decide +kernel) (by decide +kernel) (by decide +kernel) (by decide +kernel) (fun ds z => by cases z)⟩ (all_cons ⟨_, .str "1", nice_c (by decide +kernel) (by decide +kernel) (by decide +kernel) (by decide +kernel) (by decide +kernel) (fun ds z => by cases z)⟩ (all_cons o1 (all_cons ((fn_int (i := co + q) (Nat.lt_of_le_of_lt (show (co + q).natAbs ≤ co.natAbs + 97 by omega) (Nat.lt_of_le_of_lt (Nat.add_le_add_right (Nat.le_of_lt htb.2) 97) (by decide +kernel)))).up (by decide) (by decide)) all_nil)))))))
    have pen3 := pen1.same (z1.trans z2)
    refine ⟨p, c, a2, _, _, rfl, pen3, by omega, upd_same, (show 0 < 8 by decide), (show 8 ≤ 100000 by decide), fun odd H2 hodd k2 pen4 => ?_⟩
    have fo := FN.kpd pen pen3 k2 (G1 odd hodd)
    have A4 := A3.kp k2 pen4
    have tv2 := ((tv1.same (z1.trans z2)).kpd pen pen3 k2)
    have kk2 : Kp p H H2 := k1.trans ((Same.kp (z1.trans z2)).trans k2)
    have fe : ∀ G : Hp, FN 101 0 K G (.int ex) := fun G => fn_int (Nat.lt_trans htb.1 h100)
    have fc : ∀ G : Hp, FN 101 0 K G (.int co) := fun G => fn_int (Nat.lt_trans htb.2 h100)
    have f0 : ∀ G : Hp, FN 101 0 K G (.int 0) := fun G => fn_int (by decide)
    -- parts
    refine ⟨_, rfl, _, rfl, sl_of (show 2 ≤ 1000000 by decide), fun b1 n1 => ?_⟩
    have y1 := same_new n1 (o := HO.tup [V.int ex, odd])
    have p1 := (fn_t2 A4 n1 (fe _) fo).up (n' := 25000) (k' := 3) (by decide) (by decide)
    have fo := fo.same (er_same y1)
    have B1 := A4.same y1
    refine ⟨_, rfl, _, rfl, sl_of (show 2 ≤ 1000000 by decide), fun b2 n2 => ?_⟩
    have y2 := same_new n2 (o := HO.tup [odd, V.int co])
    have p2 := (fn_t2 B1 n2 fo (fc _)).up (n' := 25000) (k' := 3) (by decide) (by decide)
    have fo := fo.same (er_same y2)
    have p1 := p1.same (er_same y2)
    have B2 := B1.same y2
    refine ⟨_, rfl, _, rfl, sl_of (show 2 ≤ 1000000 by decide), fun b3 n3 => ?_⟩
    have y3 := same_new n3 (o := HO.lst [V.int ex, V.int co])
    have p3 := (fn_l2 B2 n3 (fe _) (fc _)).up (n' := 25000) (k' := 3) (by decide) (by decide)
    have fo := fo.same (er_same y3)
    have p1 := p1.same (er_same y3)
    have p2 := p2.same (er_same y3)
    have B3 := B2.same y3
    refine ⟨_, rfl, sl_of (show 1 ≤ 1000000 by decide), fun b4 n4 => ?_⟩
    have y4 := same_new n4 (o := HO.tup [V.int ex])
    have p4 := (fn_t1 B3 n4 (fe _)).up (n' := 25000) (k' := 3) (by decide) (by decide)
    have fo := fo.same (er_same y4)
    have p1 := p1.same (er_same y4)
    have p2 := p2.same (er_same y4)
    have p3 := p3.same (er_same y4)
    have B4 := B3.same y4
    refine ⟨_, rfl, _, rfl, sl_of (show 3 ≤ 1000000 by decide), fun b5 n5 => ?_⟩
    have y5 := same_new n5 (o := HO.tup [V.int ex, V.int co, V.int 0])
    have p5 := (fn_t3 B4 n5 (fe _) (fc _) (f0 _)).up (n' := 25000) (k' := 3) (by decide) (by decide)
    have fo := fo.same (er_same y5)
    have p1 := p1.same (er_same y5)
    have p2 := p2.same (er_same y5)
    have p3 := p3.same (er_same y5)
    have p4 := p4.same (er_same y5)
    have B5 := B4.same y5
    refine ⟨_, rfl, sl_of (show 6 ≤ 1000000 by decide), fun b6 n6 => ?_⟩
    have y6 := same_new n6 (o := HO.lst [V.ref b1, V.ref b2, V.ref b3, V.ref b4, V.ref b5, odd])
    have B6 := B5.same y6
    have G2 := all_cons (P := FN 25000 3 K (er H _)) (l := _) (p1.same (er_same y6)) (all_cons (p2.same (er_same y6)) (all_cons (p3.same (er_same y6)) (all_cons (p4.same (er_same y6)) (all_cons (p5.same (er_same y6)) (all_cons ((fo.same (er_same y6)).up (by decide) (by decide)) all_nil)))))
    have Y := y1.trans (y2.trans (y3.trans (y4.trans (y5.trans y6))))
    have pen5 := pen4.same Y
    refine ⟨_, rfl, _, rfl, p, c, b6, _, _, rfl, pen5, by omega, upd_same, (show 0 < 6 by decide), (show 6 ≤ 100000 by decide), fun ch H3 hch k3 pen6 => ?_⟩
    have fch := FN.kpd pen pen5 k3 (G2 ch hch)
    have C0 := B6.kp k3 pen6
    have tv3 := (tv2.same Y).kpd pen pen5 k3
    have kk3 := kk2.trans ((Same.kp Y).trans k3)
    clear G2 p1 p2 p3 p4 p5 fo
    -- options
    refine ⟨_, rfl, _, rfl, (i : Int), rfl, tv_cut C0 tv3 fun u1 J1 w1 D1 q1 => ?_⟩
    have fch := fch.same (er_same w1)
    refine ⟨_, rfl, sl_of (show 1 ≤ 1000000 by decide), fun c1 m1 => ?_⟩
    have w2 := same_new m1 (o := HO.tup [ch])
    have D2 := D1.same w2
    have o2 := tv_one D1 m1 fch
    refine tv_cat D2 (q1.same w2) o2 (by decide) fun u2 J2 w3 D3 q2 => ?_
    have tvA := tv3.same (w1.trans (w2.trans w3))
    refine ⟨_, rfl, _, rfl, (i : Int), 1, rfl, rfl, _, rfl, ?_⟩
    dsimp only [tNoPart]
    refine tv_cut D3 tvA fun u3 J3 w4 D4 q3 => ?_
    refine tv_cat D4 (q2.same w4) q3 (by decide) fun u4 J4 w5 D5 q4 => ?_
    have tvB := tvA.same (w4.trans w5)
    obtain ⟨ar, xr, er1', hr1, hr2⟩ := tv_rev D5 tvB
    refine ⟨_, rfl, ar, xr, er1', hr1, fun c2 m2 => ?_⟩
    have q5 := hr2 c2 m2
    have w6 := same_new m2 (o := HO.tup xr.reverse)
    have D6 := D5.same w6
    obtain ⟨al, xl, el, hl1, hl2⟩ := tv_list D6 (tvB.same w6) (by decide)
    refine ⟨_, rfl, al, xl, by rw [el], .inr hl1, fun c3 m3 => ?_⟩
    have g3 := hl2 c3 m3
    have w7 := same_new m3 (o := HO.lst xl)
    have D7 := D6.same w7
    refine ⟨sl_of (show 3 ≤ 1000000 by decide), fun c4 m4 => ?_⟩
    have w8 := same_new m4 (o := HO.lst [u4, V.ref c2, V.ref c3])
    have D8 := D7.same w8
    have g1 := (q4.same (w6.trans (w7.trans w8)))
    have g2 := (q5.same (w7.trans w8))
    have g3 := Good.same (er_same w8) g3
    have tvC := tvB.same (w6.trans (w7.trans w8))
    -- the last two
    refine ⟨_, rfl, _, rfl, _, rfl, _, rfl, _, rfl, (i : Int), rfl, _, rfl, (i : Int), 1, rfl, rfl, _, rfl, ?_⟩
    dsimp only
    refine tv_cut D8 tvC fun u5 J5 w9 D9 q6 => ?_
    refine tv_cat D9 (tvC.same w9) q6 (by decide) fun u6 J6 w10 D10 q7 => ?_
    have tvD := tvC.same (w9.trans w10)
    refine ⟨_, rfl, _, rfl, (i : Int), rfl, tv_cut D10 tvD fun u7 J7 w11 D11 q8 => ?_⟩
    refine ⟨_, rfl, _, rfl, (i : Int), 1, rfl, rfl, _, rfl, ?_⟩
    dsimp only [tNoPart]
    refine tv_cut D11 (tvD.same w11) fun u8 J8 w12 D12 q9 => ?_
    refine tv_cat D12 (q8.same w12) q9 (by decide) fun u9 J9 w13 D13 q10 => ?_
    refine ⟨sl_of (show 2 ≤ 1000000 by decide), fun c5 m5 => ?_⟩
    have w14 := same_new m5 (o := HO.lst [u6, u9])
    have W := w9.trans (w10.trans (w11.trans (w12.trans (w13.trans w14))))
    refine ⟨c4, c5, _, _, rfl, rfl, W _ _ upd_same, upd_same, sl_of (show 3 + 2 ≤ 1000000 by decide), fun c6 m6 => ?_⟩
    have w15 := same_new m6 (o := HO.lst ([u4, V.ref c2, V.ref c3] ++ [u6, u9]))
    have E1 := g1.same (W.trans w15)
    have E2 := g2.same (W.trans w15)
    have E3 := Good.same (er_same (W.trans w15)) g3
    have E4 := q7.same (w11.trans (w12.trans (w13.trans (w14.trans w15))))
    have E5 := q10.same (w14.trans w15)
    have ZZ := w1.trans (w2.trans (w3.trans (w4.trans (w5.trans (w6.trans (w7.trans (w8.trans (W.trans w15))))))))
    have pen7 := pen6.same ZZ
    have G3 := all_cons (P := fun v => Good K (er H _) v) (l := _) (E1.good (by decide)) (all_cons (E2.good (by decide)) (all_cons E3 (all_cons (E4.good (by decide)) (all_cons (E5.good (by decide)) all_nil))))
    refine ⟨p, c, c6, _, _, rfl, pen7, by omega, upd_same, (show 0 < 5 by decide), (show 5 ≤ 100000 by decide), fun v H4 hv k4 pen8 => ?_⟩
    obtain ⟨kvs, hp⟩ := pen7.dict
    obtain ⟨kvs0, hp0⟩ := pen.dict
    obtain ⟨dd, hd, hsh⟩ := G3 v hv
    refine k v H4 (kk3.trans ((Same.kp ZZ).trans k4)) (pen8.mono (by omega)) ⟨dd, ?_, hsh⟩
    have hp' : er H _ p = some (.dK kvs) := er_of hp fun xs e => by rw [hp0] at e; cases e
    rcases hd with hd | ⟨a', e1, e2, e3⟩
    · exact .inl (Dp.kpd hp' (er_kp k4) hd)
    · refine .inr ⟨a', e1, ?_, e3⟩
      refine er_kp k4 _ _ (fun e => ?_) e2
      obtain ⟨ns, u, l, hpx, _⟩ := pen7.ex
      have e4 := (er_at e2).1
      rw [e, hpx] at e4
      injection e4 with e4
      injection e4 with e4
      cases e4
theorem sc_law : FnScope ["_law_script", "_law_pen_here", "_law_turn", "_law_prime_here", "_law_pairs_here", "_law_given", "_law_kept", "_law_found", "_law_values", "_law_value", "_law_told", "_law_k"] ["_law_script"] (defScope s_law) := ⟨rfl, rfl, rfl, by decide +kernel, rfl, by decide +kernel, by decide +kernel⟩
theorem shw_int {i : Int} (h : i.natAbs < 10 ^ 100) : Shw (.int i) := (fits_int h).shw (by decide) (by decide) (Nat.zero_le _) (fun ds e => by cases e)
theorem shw_pd {g : Pol} (h : Sm g) (hl : g.length ≤ 101) : Shw (pd g) := (nice_pd h hl).f.shw (by decide) (by decide) (nice_pd h hl).tl (nice_pd h hl).it
theorem shw_lpd {g : Pol} (h : Sm g) (hl : g.length ≤ 101) : Shw (.list (g.map pr)) := (nice_lpd h hl).f.shw (by decide) (by decide) (nice_lpd h hl).tl (nice_lpd h hl).it
theorem law_ok {f : Addr} {fd : FuncData} (F : Fun K "law" "law" s_law f fd) (B : Blt mg) (C_normalize : Cal P w K mg base 2 "normalize" (sp_normalize K)) (C_is_polynomial : Cal P w K mg base 3 "is_polynomial" (sp_is_polynomial K)) (C__law_pen : Cal P w K mg base 1 "_law_pen" (sp__law_pen K)) (C__law_prime : Cal P w K mg base 3 "_law_prime" sp__law_prime) (C__law_normal : Cal P w K mg base 1 "_law_normal" (sp_normalize K)) (C__law_odd_value : Cal P w K mg base 3 "_law_odd_value" (sp__law_odd_value K)) (C__law_pairs : Cal P w K mg base 3 "_law_pairs" (sp__law_pairs1 K)) (C__law_is_normal : Cal P w K mg base 1 "_law_is_normal" (sp_is_polynomial K)) (C__law_changed : Cal P w K mg base 3 "_law_changed" (sp__law_changed1 K)) : Kept P w K mg base f fd ["_law_script"] (sp_law K) := by
  refine kept_of (k := 3) F sc_law (fun vs H Q E h => ?_) ⟨rfl, by decide, by decide⟩ (fun cdv s H vs Q E hr h => ?_)
  · obtain ⟨a, ns, rfl, _⟩ := h
    rfl
  · obtain ⟨a, ns, rfl, hS, hlen, k⟩ := h
    have nd := sc_law.nd
    have hu2 := hr.units
    have hg : (callerA.deeper (envOfC "law" (defScope s_law) s.heap.objs.size f cdv)).guards = some [] := rfl
    have hu0 : (callerA.deeper (envOfC "law" (defScope s_law) s.heap.objs.size f cdv)).units + 100 < cLine := by
      have := hr.un
      omega
    have shb : ∀ b : Bool, Shw (.bool b) := fun b => by cases b <;> exact shw_of (by decide +kernel)
    refine ⟨_, (pss_cons (ps_set (i := 1) nd rfl (.inr rfl) (pe_c C__law_pen hr (by decide) (by rfl) (pa_cons (pv 0) pa_nil)))
    (pss_cons (ps_for PassesOwn.never rfl (pi_range1 (by rfl) B.range (pa_cons pe_int pa_nil)) (pg_name (i := 2) nd rfl (.inl rfl))
      (pss_cons (ps_set (i := 3) nd rfl (.inr rfl) (pe_c C__law_prime hr (by decide) (by rfl) (pa_cons (pv 1) pa_nil)))
    (pss_cons (ps_set (i := 4) nd rfl (.inl rfl) (pe_c C__law_pairs hr (by decide) (by rfl) (pa_cons (pv 1) (pa_cons (pv 3) pa_nil))))
    (pss_cons (ps_set (i := 5) nd rfl (.inl rfl) (pe_ix ix_list (pe_lst (pa_cons (pv 4) (pa_cons (pe_callTy call_tuple_of (by rfl) B.tuple (by decide +kernel) (pa_cons (pv 4) pa_nil)) pa_nil))) (pe_op op_mod (pv 2) pe_int) (fun _ _ => rfl)))
    (pss_cons (ps_asg (pe_tup (pa_cons (pe_callB (call_reprX hg hu0) (by rfl) B.repr (by decide +kernel) (pa_cons (pv 5) pa_nil)) (pa_cons (pe_c C_normalize hr (by decide) (by rfl) (pa_cons (pv 3) (pa_cons (pv 5) pa_nil))) pa_nil))) (pg_tup rfl (pgs_cons (pg_name (i := 6) nd rfl (.inl rfl)) (pgs_cons (pg_name (i := 7) nd rfl (.inr rfl)) pgs_nil))))
    (pss_cons (ps_if (PW.pt (pw_or (pt_cmpR op_ne (pe_callB (call_reprX hg hu0) (by rfl) B.repr (by decide +kernel) (pa_cons (pv 7) pa_nil)) (pe_callB (call_reprX hg hu0) (by rfl) B.repr (by decide +kernel) (pa_cons (pe_c C__law_normal hr (by decide) (by rfl) (pa_cons (pv 3) (pa_cons (pv 4) pa_nil))) pa_nil)) (nomark _)) (pw_or1 (pt_cmpR op_ne (pe_callB (call_reprX hg hu0) (by rfl) B.repr (by decide +kernel) (pa_cons (pv 5) pa_nil)) (pv 6) (nomark _)))))
      (pss_one (ps_ret pe_bl))
      pss_nil)
    (pss_cons (ps_if (PW.pt (pw_or (pt_cmpR op_isnot_bl (pe_c C_is_polynomial hr (by decide) (by rfl) (pa_cons (pv 3) (pa_cons (pv 7) pa_nil))) pe_bl (nomark _)) (pw_or1 (pt_cmpR op_ne (pe_callB (call_reprX hg hu0) (by rfl) B.repr (by decide +kernel) (pa_cons (pe_c C_normalize hr (by decide) (by rfl) (pa_cons (pv 3) (pa_cons (pv 7) pa_nil))) pa_nil)) (pe_callB (call_reprX hg hu0) (by rfl) B.repr (by decide +kernel) (pa_cons (pv 7) pa_nil)) (nomark _)))))
      (pss_one (ps_ret pe_bl))
      pss_nil)
    (pss_cons (ps_set (i := 8) nd rfl (.inl rfl) (pe_lst (pa_cons (pe_c C__law_odd_value hr (by decide) (by rfl) (pa_cons (pv 1) pa_nil)) (pa_cons (pe_c C__law_odd_value hr (by decide) (by rfl) (pa_cons (pv 1) pa_nil)) (pa_cons (pe_op op_catA (pv 7) (pv 7)) pa_nil)))))
    (pss_cons (ps_set (i := 8) nd rfl (.inl rfl) (pe_op op_cat (pv 8) (pe_lst (pa_cons (pe_tup (pa_cons (pe_tup (pa_cons (pe_op op_add (pe_op op_pow pe_int pe_int) (pv 2)) (pa_cons pe_int pa_nil))) pa_nil)) (pa_cons (pe_tup (pa_cons (pe_tup (pa_cons (pe_un un_neg (pe_op op_mulOk (pe_op op_pow pe_int pe_int) (pe_op op_pow pe_int pe_int))) (pa_cons pe_int pa_nil))) (pa_cons (pe_tup (pa_cons (pe_op op_pow pe_int pe_int) (pa_cons (pe_op op_sub (pv 3) pe_int) pa_nil))) pa_nil))) pa_nil)))))
    (pss_cons (ps_if (pt_cmpR (op_neD hu2) (pv 7) (pe_tup pa_nil) (nomark _))
      (pss_one (ps_set (i := 8) nd rfl (.inl rfl) (pe_op op_cat (pv 8) (pe_lc (own := [("_law_k", 11)]) (by rfl) nd (pi_range1 (by rfl) B.range (pa_cons pe_int pa_nil)) (blkOk_by (N := ["_law_script", "_law_pen_here", "_law_turn", "_law_prime_here", "_law_pairs_here", "_law_given", "_law_kept", "_law_found", "_law_values", "_law_value", "_law_told", "_law_k"]) (sc := defScope s_law) (own := [("_law_k", 11)]) (by decide +kernel)) (fun _ _ _ _ _ => (pg_name (i := 11) nd rfl (.inl rfl))) (fun _ _ _ _ _ => pts_nil) (fun _ _ _ _ _ => (pe_c C__law_changed hr (by decide) (by rfl) (pa_cons (pv 1) (pa_cons (pv 3) (pa_cons (pv 7) pa_nil)))))))))
      pss_nil)
    (pss_one (ps_for PassesOwn.never rfl (pi_list (pv 8)) (pg_name (i := 9) nd rfl (.inl rfl))
      (pss_cons (ps_par (i := 6) (j := 10) (by rfl) nd rfl rfl (by decide) rfl rfl (pa_cons (pe_callB (call_reprX hg hu0) (by rfl) B.repr (by decide +kernel) (pa_cons (pv 9) pa_nil)) (pa_cons (pe_c C_is_polynomial hr (by decide) (by rfl) (pa_cons (pv 3) (pa_cons (pv 9) pa_nil))) pa_nil)) (by rfl))
    (pss_one (ps_if (PW.pt (pw_or (pt_cmpR op_ne (pe_callB (call_reprX hg hu0) (by rfl) B.repr (by decide +kernel) (pa_cons (pv 10) pa_nil)) (pe_callB (call_reprX hg hu0) (by rfl) B.repr (by decide +kernel) (pa_cons (pe_c C__law_is_normal hr (by decide) (by rfl) (pa_cons (pv 3) (pa_cons (pv 9) pa_nil))) pa_nil)) (nomark _)) (pw_or1 (pt_cmpR op_ne (pe_callB (call_reprX hg hu0) (by rfl) B.repr (by decide +kernel) (pa_cons (pv 9) pa_nil)) (pv 6) (nomark _)))))
      (pss_one (ps_ret pe_bl))
      pss_nil)))))))))))))))
    (pss_one (ps_ret pe_bl)))), ?_⟩
    refine ⟨_, rfl, a, ns, rfl, hS, fun p c H1 np s1 pen1 => ?_⟩
    refine ⟨8, rfl, by decide, by decide, for_range (lo := 0) (n := 8) (fun i σ H2 => ∃ (y2 y3 y4 y5 y6 y7 y8 y9 y10 : Option V), σ = [some (.ref a), some (.ref p), y2, y3, y4, y5, y6, y7, y8, y9, y10, none] ∧ PenAt H2 p c (500 * i)) ⟨_, _, _, _, _, _, _, _, _, rfl, pen1⟩ ?_ ?_⟩
    · rintro i σ H2 hi ⟨y2, y3, y4, y5, y6, y7, y8, y9, y10, rfl, pen2⟩
      refine ⟨_, rfl, p, c, 500 * i, rfl, pen2, by omega, fun q H3 hq _ pen3 => ?_⟩
      obtain ⟨hq1, hq2⟩ := prime_rng q hq
      have hp : 0 < q := by omega
      refine ⟨_, rfl, _, rfl, p, c, q, _, rfl, hq1, hq2, pen3, by omega, fun D ys g H4 k4 pen4 hD hPg lg pb => ?_⟩
      have smg : Sm g := ⟨by omega, fun t ht => ⟨Nat.lt_of_le_of_lt (pb t ht).1 (by decide +kernel), Nat.lt_of_le_of_lt (pb t ht).2 (by decide +kernel)⟩⟩
      -- what is passed
      refine ⟨_, rfl, _, rfl, D, ys, rfl, .inl ⟨SqL.of hD, fun T nT => ?_⟩⟩
      have z1 := same_new nT (o := HO.tup ys)
      refine ⟨sl_of (show 2 ≤ 1000000 by decide), fun G nG => ?_⟩
      have z2 := same_new nG (o := HO.lst [V.ref D, V.ref T])
      have hD5 := (z1.trans z2) _ _ hD
      have hP5 := Prs.tp (Same.tp (z1.trans z2)) hPg
      have hT5 : SqT K (upd (upd H4 T (HO.tup ys)) G (HO.lst [V.ref D, V.ref T])) T ys := same_t z2 (SqT.of upd_same)
      have hG5 : upd (upd H4 T (HO.tup ys)) G (HO.lst [V.ref D, V.ref T]) G = some (HO.lst [V.ref D, V.ref T]) := upd_same
      have pen5 := pen4.same (z1.trans z2)
      generalize upd (upd H4 T (HO.tup ys)) G (HO.lst [V.ref D, V.ref T]) = H5 at hD5 hP5 hT5 hG5 pen5 ⊢
      obtain ⟨gv, dg, hat, hor, hdg, shg⟩ : ∃ (gv : V) (dg : PyData), atI [V.ref D, V.ref T] ((0 + (i : Int)) % 2) = some gv ∧ (TPol K H5 gv g ∨ LPol K H5 gv g) ∧ Dp K H5 gv dg ∧ Shw dg := by
        have h2 : (0 + (i : Int)) % 2 = 0 ∨ (0 + (i : Int)) % 2 = 1 := by omega
        rcases h2 with h2 | h2
        · rw [h2]
          exact ⟨_, _, rfl, .inr ⟨D, ys, rfl, SqL.of hD5, hP5⟩, .lst (SqL.of hD5) hP5.dp, shw_lpd smg (by omega)⟩
        · rw [h2]
          exact ⟨_, _, rfl, .inl ⟨T, ys, rfl, hT5, hP5⟩, .tup hT5 hP5.dp, shw_pd smg (by omega)⟩
      refine ⟨_, rfl, 0 + (i : Int), 2, rfl, rfl, (show (0 : Int) < 2 by decide), G, _, _, gv, rfl, rfl, SqL.of hG5, hat, ?_⟩
      refine ⟨_, rfl, gv, dg, rfl, .inl hdg, shg.sh, shg.nd, shg.dp, shg.ln, ?_⟩
      refine ⟨_, rfl, _, rfl, q, gv, g, rfl, hp, hor, by omega, fun u H6 f6 s6 hu6 N6 => ?_⟩
      refine ⟨sl_of (show 2 ≤ 1000000 by decide), fun tu ntu => ⟨tu, _, rfl, SqT.of upd_same, rfl, _, _, rfl, _, _, rfl, rfl, ?_⟩⟩
      have z3 := same_new ntu (o := HO.tup [V.str dg.shown, u])
      have S6 := s6.trans z3
      have hu := hu6.tp (Same.tp z3)
      have pen6 := pen5.same S6
      have hD6 := S6 _ _ hD5
      have hP6 := Prs.tp (Same.tp S6) hP5
      have hdg6 := Dp.same S6 hdg
      generalize upd H6 tu (HO.tup [V.str dg.shown, u]) = H7 at S6 hu pen6 hD6 hP6 hdg6 ⊢
      -- what is found is small
      have zero : ∀ e, e ∉ g.map (·.1) → cf g e % q = 0 := fun e he => by
        rw [cf_out he]
        rfl
      have lf : f6.length ≤ 16 := by
        have := N6.len zero
        rw [List.length_map] at this
        omega
      have bf : ∀ t ∈ f6, t.1.natAbs ≤ 10 ^ 31 := fun t ht => by
        obtain ⟨z, hz, ez⟩ := List.mem_map.mp (N6.sub zero t ht)
        rw [← ez]
        exact (pb z hz).1
      have bc : ∀ t ∈ f6, t.1.natAbs < 10 ^ 90 ∧ t.2.natAbs < 10 ^ 90 := fun t ht => ⟨Nat.lt_of_le_of_lt (bf t ht) (by decide +kernel), Nat.lt_of_le_of_lt (show t.2.natAbs ≤ 97 by have := N6.rng t ht; omega) (by decide +kernel)⟩
      have h90 : (10 : Nat) ^ 90 < 10 ^ 100 := by decide +kernel
      have smf : Sm f6 := ⟨by omega, fun t ht => ⟨Nat.lt_trans (bc t ht).1 h90, Nat.lt_trans (bc t ht).2 h90⟩⟩
      have shf := shw_pd smf (by omega)
      -- normalize
      refine ⟨_, rfl, u, pd f6, rfl, .inl hu.dp, shf.sh, shf.nd, shf.dp, shf.ln, ?_⟩
      refine ⟨_, rfl, _, rfl, q, .ref D, g, rfl, hp, .inr ⟨D, ys, rfl, SqL.of hD6, hP6⟩, by omega, fun u2 H8 f8 s8 hu8 N8 => ?_⟩
      obtain rfl : f6 = f8 := N6.uniq N8 fun _ => rfl
      refine ⟨u2, pd f6, rfl, .inl hu8.dp, shf.sh, shf.nd, shf.dp, shf.ln, ?_⟩
      refine ⟨rfl, _, rfl, iteNS rfl ?_⟩
      refine ⟨_, rfl, gv, dg, rfl, .inl (Dp.same s8 hdg6), shg.sh, shg.nd, shg.dp, shg.ln, ?_⟩
      refine ⟨_, rfl, rfl, _, rfl, iteNS rfl ?_⟩
      have hu := hu.tp (Same.tp s8)
      have pen8 := pen6.same s8
      -- is_polynomial
      refine ⟨_, rfl, _, rfl, q, u, pd f6, rfl, .inl hu.dp, (fun ds e => by cases PyData.tuple.inj e; rw [List.length_map]; omega), fun H9 s9 => ?_⟩
      rw [nf_poly N6]
      refine ⟨true, true, rfl, rfl, _, rfl, iteF ?_⟩
      have hu := hu.tp (Same.tp s9)
      refine ⟨_, rfl, _, rfl, q, u, f6, rfl, hp, .inl hu, by omega, fun u3 H10 f10 s10 hu10 N10 => ?_⟩
      obtain rfl : f6 = f10 := N6.self.uniq N10 fun _ => rfl
      refine ⟨u3, pd f6, rfl, .inl hu10.dp, shf.sh, shf.nd, shf.dp, shf.ln, ?_⟩
      have hu := hu.tp (Same.tp s10)
      refine ⟨_, rfl, u, pd f6, rfl, .inl hu.dp, shf.sh, shf.nd, shf.dp, shf.ln, ?_⟩
      refine ⟨rfl, _, rfl, iteNS rfl ?_⟩
      have pen10 := pen8.same (s9.trans s10)
      -- values
      refine ⟨_, rfl, p, c, _, rfl, pen10, by omega, fun v0 H11 k11 pen11 g0 => ?_⟩
      refine ⟨_, rfl, p, c, _, rfl, pen11, by omega, fun v1 H12 k12 pen12 g1 => ?_⟩
      have g0 := Good.kp pen11 k12 g0
      have hu := (hu.tp (pen10.tp k11)).tp (pen11.tp k12)
      have tvu : TV K H12 H12 u 16 := tv_pol (fun t ht => ⟨Nat.lt_trans (bc t ht).1 h90, Nat.lt_trans (bc t ht).2 h90⟩) hu lf
      refine ⟨_, rfl, _, rfl, tv_cat (Al.refl H12) tvu tvu (by decide) fun w2 H13 s13 _ tv2 => ?_⟩
      have g2 : Good K H13 w2 := Good.same (er_sub H12 H13) (tv2.good (by decide))
      refine ⟨sl_of (show 3 ≤ 1000000 by decide), fun V1 nV1 => ?_⟩
      have z4 := same_new nV1 (o := HO.lst [v0, v1, w2])
      have G3 := good_cons (Good.same (s13.trans z4) g0) (good_cons (Good.same (s13.trans z4) g1) (good_cons (Good.same z4 g2) good_nil))
      have hV1 : upd H13 V1 (HO.lst [v0, v1, w2]) V1 = some (HO.lst [v0, v1, w2]) := upd_same
      have pen13 := pen12.same (s13.trans z4)
      have hu := hu.tp (Same.tp (s13.trans z4))
      generalize upd H13 V1 (HO.lst [v0, v1, w2]) = H14 at G3 hV1 pen13 hu ⊢
      -- two more
      refine ⟨_, rfl, 10, 62, rfl, rfl, ⟨by decide, by decide, by decide⟩, _, rfl, 10 ^ 62, 0 + (i : Int), rfl, rfl, sl_of (show 2 ≤ 1000000 by decide), fun t1 n1 => ?_⟩
      have w1 := same_new n1 (o := HO.tup [V.int (10 ^ 62 + (0 + (i : Int))), V.int 1])
      have e1 := dn_tup (K := K) n1 [V.int (10 ^ 62 + (0 + (i : Int))), V.int 1] [.int (10 ^ 62 + (0 + (i : Int))), .int 1] (.cons (.int _) (.cons (.int _) .nil))
      refine ⟨sl_of (show 1 ≤ 1000000 by decide), fun t2 n2 => ?_⟩
      have w2' := same_new n2 (o := HO.tup [V.ref t1])
      have e2 := dn_tup (K := K) n2 [V.ref t1] [.tuple [.int (10 ^ 62 + (0 + (i : Int))), .int 1]] (.cons (Dp.same w2' e1) .nil)
      refine ⟨10, 49, rfl, rfl, ⟨by decide, by decide, by decide⟩, 10, 50, rfl, rfl, ⟨by decide, by decide, by decide⟩, 10 ^ 49, 10 ^ 50, rfl, rfl, (by unfold IntMulOk; decide +kernel), 10 ^ 49 * 10 ^ 50, rfl, sl_of (show 2 ≤ 1000000 by decide), fun t3 n3 => ?_⟩
      have w3 := same_new n3 (o := HO.tup [V.int (-(10 ^ 49 * 10 ^ 50)), V.int 1])
      have e3 := dn_tup (K := K) n3 [V.int (-(10 ^ 49 * 10 ^ 50)), V.int 1] [.int (-(10 ^ 49 * 10 ^ 50)), .int 1] (.cons (.int _) (.cons (.int _) .nil))
      refine ⟨10, 62, rfl, rfl, ⟨by decide, by decide, by decide⟩, _, rfl, q, 1, rfl, rfl, sl_of (show 2 ≤ 1000000 by decide), fun t4 n4 => ?_⟩
      have w4 := same_new n4 (o := HO.tup [V.int (10 ^ 62), V.int (q - 1)])
      have e4 := dn_tup (K := K) n4 [V.int (10 ^ 62), V.int (q - 1)] [.int (10 ^ 62), .int (q - 1)] (.cons (.int _) (.cons (.int _) .nil))
      refine ⟨sl_of (show 2 ≤ 1000000 by decide), fun t5 n5 => ?_⟩
      have w5 := same_new n5 (o := HO.tup [V.ref t3, V.ref t4])
      have e5 := dn_tup (K := K) n5 [V.ref t3, V.ref t4] [.tuple [.int (-(10 ^ 49 * 10 ^ 50)), .int 1], .tuple [.int (10 ^ 62), .int (q - 1)]] (.cons (Dp.same (w4.trans w5) e3) (.cons (Dp.same w5 e4) .nil))
      refine ⟨sl_of (show 2 ≤ 1000000 by decide), fun l2 nl2 => ?_⟩
      have w6 := same_new nl2 (o := HO.lst [V.ref t2, V.ref t5])
      have b1 : (10 ^ 62 + (0 + (i : Int))).natAbs < 10 ^ 100 := Nat.lt_of_le_of_lt (show (10 ^ 62 + (0 + (i : Int))).natAbs ≤ 10 ^ 62 + 8 by omega) (by decide +kernel)
      have sA : Shw (.tuple [.tuple [.int (10 ^ 62 + (0 + (i : Int))), .int 1]]) := (nice_1 (nice_2 (nice_int b1) (nice_int (i := 1) (by decide)))).f.shw (by decide) (by decide) (nice_1 (nice_2 (nice_int b1) (nice_int (i := 1) (by decide)))).tl (nice_1 (nice_2 (nice_int b1) (nice_int (i := 1) (by decide)))).it
      have nB := nice_2 (nice_2 (nice_int (i := -(10 ^ 49 * 10 ^ 50)) (by decide +kernel)) (nice_int (i := 1) (by decide))) (nice_2 (nice_int (i := 10 ^ 62) (by decide +kernel)) (nice_int (i := q - 1) (Nat.lt_of_le_of_lt (show (q - 1).natAbs ≤ 97 by omega) (by decide +kernel))))
      have sB : Shw (.tuple [.tuple [.int (-(10 ^ 49 * 10 ^ 50)), .int 1], .tuple [.int (10 ^ 62), .int (q - 1)]]) := nB.f.shw (by decide) (by decide) nB.tl nB.it
      have WW := w1.trans (w2'.trans (w3.trans (w4.trans (w5.trans w6))))
      refine ⟨V1, l2, _, _, rfl, rfl, WW _ _ hV1, upd_same, sl_of (show 3 + 2 ≤ 1000000 by decide), fun V2 nV2 => ?_⟩
      have w7 := same_new nV2 (o := HO.lst ([v0, v1, w2] ++ [V.ref t2, V.ref t5]))
      have G5 : ∀ w ∈ [v0, v1, w2] ++ [V.ref t2, V.ref t5], Good K _ w := all_app (fun w hw => Good.same (WW.trans w7) (G3 w hw)) (good_cons (Good.same (w3.trans (w4.trans (w5.trans (w6.trans w7)))) ⟨_, .inl e2, sA⟩) (good_cons (Good.same (w6.trans w7) ⟨_, .inl e5, sB⟩) good_nil))
      have hV2 : upd _ V2 (HO.lst ([v0, v1, w2] ++ [V.ref t2, V.ref t5])) V2 = some (HO.lst ([v0, v1, w2] ++ [V.ref t2, V.ref t5])) := upd_same (H := upd (upd (upd (upd (upd (upd H14 t1 (HO.tup [V.int (10 ^ 62 + (0 + (i : Int))), V.int 1])) t2 (HO.tup [V.ref t1])) t3 (HO.tup [V.int (-(10 ^ 49 * 10 ^ 50)), V.int 1])) t4 (HO.tup [V.int (10 ^ 62), V.int (q - 1)])) t5 (HO.tup [V.ref t3, V.ref t4])) l2 (HO.lst [V.ref t2, V.ref t5]))
      have pen15 := pen13.same (WW.trans w7)
      have hu := hu.tp (Same.tp (WW.trans w7))
      generalize hvs : [v0, v1, w2] ++ [V.ref t2, V.ref t5] = vs5 at G5 hV2 pen15 hu w7 ⊢
      have l5 : vs5.length = 5 := by rw [← hvs]; rfl
      -- the changed ones
      refine ⟨_, rfl, Nat.zero_le _, fun e0 ne0 => ?_⟩
      have w8 := same_new ne0 (o := HO.tup [])
      refine ⟨pd f6, pd [], Dp.same w8 hu.dp, .tup (SqT.of upd_same) .nil, pd_shaped f6, pd_shaped [], _, rfl, ?_⟩
      rw [eqv_nil]
      have G6 : ∀ w ∈ vs5, Good K _ w := fun w hw => Good.same w8 (G5 w hw)
      have hV6 := w8 _ _ hV2
      have pen16 := pen15.same w8
      have hu := hu.tp (Same.tp w8)
      by_cases hf0 : f6 = []
      · rw [decide_eq_true hf0]
        refine ite2 (fun z => by cases z) (fun _ => ?_)
        have pen17 := pen16.mono (show _ ≤ 500 * i + 200 by omega)
        refine ⟨_, rfl, V2, rfl, ⟨_, SqL.of hV6⟩, for_list (K := K) (a := V2) (xs := vs5) (fun j σ H10 => ∃ (y6 y9 y10 : Option V), σ = [some (.ref a), some (.ref p), some (.int (0 + (i : Int))), some (.int q), some (.ref D), some gv, y6, some u, some (.ref V2), y9, y10, none] ∧ (∀ w ∈ vs5, Good K H10 w) ∧ H10 V2 = some (HO.lst vs5) ∧ PenAt H10 p c (500 * i + 200)) ⟨_, _, _, rfl, G6, hV6, pen17⟩ ?_ ?_ ?_⟩
        · rintro j σ H10 _ ⟨_, _, _, _, _, hv10, _⟩
          exact SqL.of hv10
        · rintro j x σ H10 hj ⟨y6, y9, y10, rfl, G10, hv10, pen20⟩
          obtain ⟨d, hd, sh⟩ := G10 x (List.mem_of_getElem? hj)
          have hle : ∀ ds, d = .tuple ds → ds.length ≤ 1000000 := fun ds e => by
            have := sh.tl
            rw [e] at this
            exact this
          refine ⟨_, rfl, x, d, rfl, hd, sh.sh, sh.nd, sh.dp, sh.ln, ?_⟩
          refine ⟨_, rfl, _, rfl, q, x, d, rfl, hd, hle, fun H11 s11 => ?_⟩
          refine ⟨_, _, rfl, ?_⟩
          refine ⟨_, rfl, _, PyData.bool (isPoly q d), rfl, .inl (.bl _), (shb _).sh, (shb _).nd, (shb _).dp, (shb _).ln, ?_⟩
          refine ⟨_, rfl, _, rfl, q, x, d, rfl, DpX.same s11 hd, hle, fun H12 s12 => ?_⟩
          refine ⟨_, PyData.bool (isPoly q d), rfl, .inl (.bl _), (shb _).sh, (shb _).nd, (shb _).dp, (shb _).ln, ?_⟩
          refine ⟨rfl, _, rfl, iteNS rfl ?_⟩
          refine ⟨_, rfl, x, d, rfl, DpX.same (s11.trans s12) hd, sh.sh, sh.nd, sh.dp, sh.ln, ?_⟩
          refine ⟨_, rfl, rfl, _, rfl, iteNS rfl ?_⟩
          exact ⟨_, _, _, rfl, fun w hw => Good.same (s11.trans s12) (G10 w hw), (s11.trans s12) _ _ hv10, pen20.same (s11.trans s12)⟩
        · rintro σ H10 ⟨y6, y9, y10, rfl, _, _, pen20⟩
          exact ⟨_, _, _, _, _, _, _, _, _, rfl, pen20.mono (by omega)⟩
      · rw [decide_eq_false hf0]
        refine ite2 (fun _ => ?_) (fun z => absurd rfl z)
        refine ⟨_, rfl, ?_⟩
        refine lcPenG (K := K) (p := p) (c := c) 4 rfl _ 4 (by decide) (fun _ => rfl) pen16 (fun m hm H9 k9 pen9 S z => ?_) fun D2 zs H17 hl hD2 hR k17 pen17' => ?_
        · exact ⟨_, rfl, _, rfl, _, rfl, p, c, q, u, f6, _, rfl, hq1, hq2, hu.tp (pen16.tp k9), List.length_pos_iff.mpr hf0, lf, bc, pen9, by omega, fun v H10 k10 pen10 g10 => z v H10 k10 (pen10.mono (by omega)) g10⟩
        have hV7 := k17 _ _ (pen16.dict.elim fun _ e => ne_of hV6 e (by intro z; cases z)) hV6
        refine ⟨V2, D2, _, _, rfl, rfl, hV7, hD2, sl_of (show vs5.length + zs.length ≤ 1000000 by omega), fun V3 nV3 => ?_⟩
        have w9 := same_new nV3 (o := HO.lst (vs5 ++ zs))
        have G7 : ∀ w ∈ vs5 ++ zs, Good K (upd H17 V3 (HO.lst (vs5 ++ zs))) w := all_app (fun w hw => Good.same w9 (Good.kp pen16 k17 (G6 w hw))) (fun w hw => Good.same w9 (hR w hw))
        have hV8 : upd H17 V3 (HO.lst (vs5 ++ zs)) V3 = some (HO.lst (vs5 ++ zs)) := upd_same
        have pen17 : PenAt (upd H17 V3 (HO.lst (vs5 ++ zs))) p c (500 * i + 200) := (pen17'.same w9).mono (by omega)
        generalize upd H17 V3 (HO.lst (vs5 ++ zs)) = H18 at G7 hV8 pen17 ⊢
        refine ⟨_, rfl, V3, rfl, ⟨_, SqL.of hV8⟩, for_list (K := K) (a := V3) (xs := (vs5 ++ zs)) (fun j σ H10 => ∃ (y6 y9 y10 : Option V), σ = [some (.ref a), some (.ref p), some (.int (0 + (i : Int))), some (.int q), some (.ref D), some gv, y6, some u, some (.ref V3), y9, y10, none] ∧ (∀ w ∈ (vs5 ++ zs), Good K H10 w) ∧ H10 V3 = some (HO.lst (vs5 ++ zs)) ∧ PenAt H10 p c (500 * i + 200)) ⟨_, _, _, rfl, G7, hV8, pen17⟩ ?_ ?_ ?_⟩
        · rintro j σ H10 _ ⟨_, _, _, _, _, hv10, _⟩
          exact SqL.of hv10
        · rintro j x σ H10 hj ⟨y6, y9, y10, rfl, G10, hv10, pen20⟩
          obtain ⟨d, hd, sh⟩ := G10 x (List.mem_of_getElem? hj)
          have hle : ∀ ds, d = .tuple ds → ds.length ≤ 1000000 := fun ds e => by
            have := sh.tl
            rw [e] at this
            exact this
          refine ⟨_, rfl, x, d, rfl, hd, sh.sh, sh.nd, sh.dp, sh.ln, ?_⟩
          refine ⟨_, rfl, _, rfl, q, x, d, rfl, hd, hle, fun H11 s11 => ?_⟩
          refine ⟨_, _, rfl, ?_⟩
          refine ⟨_, rfl, _, PyData.bool (isPoly q d), rfl, .inl (.bl _), (shb _).sh, (shb _).nd, (shb _).dp, (shb _).ln, ?_⟩
          refine ⟨_, rfl, _, rfl, q, x, d, rfl, DpX.same s11 hd, hle, fun H12 s12 => ?_⟩
          refine ⟨_, PyData.bool (isPoly q d), rfl, .inl (.bl _), (shb _).sh, (shb _).nd, (shb _).dp, (shb _).ln, ?_⟩
          refine ⟨rfl, _, rfl, iteNS rfl ?_⟩
          refine ⟨_, rfl, x, d, rfl, DpX.same (s11.trans s12) hd, sh.sh, sh.nd, sh.dp, sh.ln, ?_⟩
          refine ⟨_, rfl, rfl, _, rfl, iteNS rfl ?_⟩
          exact ⟨_, _, _, rfl, fun w hw => Good.same (s11.trans s12) (G10 w hw), (s11.trans s12) _ _ hv10, pen20.same (s11.trans s12)⟩
        · rintro σ H10 ⟨y6, y9, y10, rfl, _, _, pen20⟩
          exact ⟨_, _, _, _, _, _, _, _, _, rfl, pen20.mono (by omega)⟩
    · rintro σ H2 ⟨y2, y3, y4, y5, y6, y7, y8, y9, y10, rfl, _⟩
      exact k H2
end
theorem all_mk {l : PySem.W.OpenLaw} {w : World} {K : PySem.W.Frag} {mg : Str → Option Value} {fa : Addr} (hfa : mg "law" = some (.ref fa)) (B : Blt mg)
    (D_is_whole : Df K mg "is_whole" s_is_whole)
    (D_from_sums : Df K mg "from_sums" s_from_sums)
    (D_normalize : Df K mg "normalize" s_normalize)
    (D_is_term : Df K mg "is_term" s_is_term)
    (D_is_polynomial : Df K mg "is_polynomial" s_is_polynomial)
    (D__law_pen : Df K mg "_law_pen" s__law_pen)
    (D__law_draw : Df K mg "_law_draw" s__law_draw)
    (D__law_pick : Df K mg "_law_pick" s__law_pick)
    (D__law_shuffled : Df K mg "_law_shuffled" s__law_shuffled)
    (D__law_prime : Df K mg "_law_prime" s__law_prime)
    (D__law_integer : Df K mg "_law_integer" s__law_integer)
    (D__law_normal : Df K mg "_law_normal" s__law_normal)
    (D__law_odd_value : Df K mg "_law_odd_value" s__law_odd_value)
    (D__law_pairs : Df K mg "_law_pairs" s__law_pairs)
    (D__law_is_normal : Df K mg "_law_is_normal" s__law_is_normal)
    (D__law_changed : Df K mg "_law_changed" s__law_changed)
    (D_law : Df K mg "law" s_law) : ∃ fd : FuncData, (∀ (s : Shared) (v : Value), BindsTo s fd ⟨[v], []⟩ [("_law_script", v)]) ∧ ∀ base : Heap, K.In base → base.Ns mainGlobals mg → Kept l.prog w K mg base fa fd ["_law_script"] (sp_law K) := by
  refine law_of hfa D_law (fun _ _ _ _ _ _ s v => .of_eq rfl) fun base f fd F => ?_
  have C_is_whole : Cal l.prog w K mg base 1 "is_whole" (sp_is_whole K) := cal_of (ps := ["value"]) D_is_whole (fun _ _ _ _ _ _ us hl => match us, hl with | [_], _ => rfl) fun f fd F => ok_is_whole F B
  have C_from_sums : Cal l.prog w K mg base 1 "from_sums" (sp_from_sums K) := cal_of (ps := ["prime", "sums"]) D_from_sums (fun _ _ _ _ _ _ us hl => match us, hl with | [_, _], _ => rfl) fun f fd F => ok_from_sums F B
  have C_normalize : Cal l.prog w K mg base 2 "normalize" (sp_normalize K) := cal_of (ps := ["prime", "pairs"]) D_normalize (fun _ _ _ _ _ _ us hl => match us, hl with | [_, _], _ => rfl) fun f fd F => ok_normalize F B C_from_sums
  have C_is_term : Cal l.prog w K mg base 2 "is_term" (sp_is_term K) := cal_of (ps := ["prime", "value"]) D_is_term (fun _ _ _ _ _ _ us hl => match us, hl with | [_, _], _ => rfl) fun f fd F => ok_is_term F B C_is_whole
  have C_is_polynomial : Cal l.prog w K mg base 3 "is_polynomial" (sp_is_polynomial K) := cal_of (ps := ["prime", "value"]) D_is_polynomial (fun _ _ _ _ _ _ us hl => match us, hl with | [_, _], _ => rfl) fun f fd F => ok_is_polynomial F B C_is_term
  have C__law_pen : Cal l.prog w K mg base 1 "_law_pen" (sp__law_pen K) := cal_of (ps := ["_law_script"]) D__law_pen (fun _ _ _ _ _ _ us hl => match us, hl with | [_], _ => rfl) fun f fd F => ok__law_pen F B
  have C__law_draw : Cal l.prog w K mg base 1 "_law_draw" sp__law_draw := cal_of (ps := ["_law_pen_here", "_law_many"]) D__law_draw (fun _ _ _ _ _ _ us hl => match us, hl with | [_, _], _ => rfl) fun f fd F => ok__law_draw F B
  have C__law_pick : Cal l.prog w K mg base 2 "_law_pick" sp__law_pick := cal_of (ps := ["_law_pen_here", "_law_options"]) D__law_pick (fun _ _ _ _ _ _ us hl => match us, hl with | [_, _], _ => rfl) fun f fd F => ok__law_pick F B C__law_draw
  have C__law_shuffled : Cal l.prog w K mg base 2 "_law_shuffled" (sp__law_shuffled K) := cal_of (ps := ["_law_pen_here", "_law_options"]) D__law_shuffled (fun _ _ _ _ _ _ us hl => match us, hl with | [_, _], _ => rfl) fun f fd F => ok__law_shuffled F B C__law_draw
  have C__law_prime : Cal l.prog w K mg base 3 "_law_prime" sp__law_prime := cal_of (ps := ["_law_pen_here"]) D__law_prime (fun _ _ _ _ _ _ us hl => match us, hl with | [_], _ => rfl) fun f fd F => ok__law_prime F B C__law_pick
  have C__law_integer : Cal l.prog w K mg base 2 "_law_integer" sp__law_integer := cal_of (ps := ["_law_pen_here", "_law_most"]) D__law_integer (fun _ _ _ _ _ _ us hl => match us, hl with | [_, _], _ => rfl) fun f fd F => ok__law_integer F B C__law_draw
  have C__law_normal : Cal l.prog w K mg base 1 "_law_normal" (sp_normalize K) := cal_of (ps := ["_law_prime_here", "_law_pairs_here"]) D__law_normal (fun _ _ _ _ _ _ us hl => match us, hl with | [_, _], _ => rfl) fun f fd F => ok__law_normal F B
  have C__law_odd_value : Cal l.prog w K mg base 3 "_law_odd_value" (sp__law_odd_value K) := cal_of (ps := ["_law_pen_here"]) D__law_odd_value (fun _ _ _ _ _ _ us hl => match us, hl with | [_], _ => rfl) fun f fd F => ok__law_odd_value F B C__law_pick
  have C__law_pairs : Cal l.prog w K mg base 3 "_law_pairs" (sp__law_pairs1 K) := cal_of (ps := ["_law_pen_here", "_law_prime_here"]) D__law_pairs (fun _ _ _ _ _ _ us hl => match us, hl with | [_, _], _ => rfl) fun f fd F => ok__law_pairs F B C__law_draw C__law_pick C__law_integer C__law_shuffled
  have C__law_is_normal : Cal l.prog w K mg base 1 "_law_is_normal" (sp_is_polynomial K) := cal_of (ps := ["_law_prime_here", "_law_value"]) D__law_is_normal (fun _ _ _ _ _ _ us hl => match us, hl with | [_, _], _ => rfl) fun f fd F => ok__law_is_normal F B
  have C__law_changed : Cal l.prog w K mg base 3 "_law_changed" (sp__law_changed1 K) := cal_of (ps := ["_law_pen_here", "_law_prime_here", "_law_polynomial"]) D__law_changed (fun _ _ _ _ _ _ us hl => match us, hl with | [_, _, _], _ => rfl) fun f fd F => ok__law_changed F B C__law_draw C__law_pick
  exact law_ok F B C_normalize C_is_polynomial C__law_pen C__law_prime C__law_normal C__law_odd_value C__law_pairs C__law_is_normal C__law_changed
end DR
open PySem PySem.W PyProof.Rows
set_option maxRecDepth 100000 in
set_option maxHeartbeats 0 in
theorem PySem.Challenge.cw_dialroad_k01_normalized_polynomials_holds : PySem.Challenge.rw_dialroad_k01_normalized_polynomials.Holds := by
  w_on; o_law; k_head; (case hw => w_witness2)
  k_fill
  refine DR.walk_kept (l := PySem.Challenge.rw_dialroad_k01_normalized_polynomials) (sp := DR.sp_law) (x := "_law_script") rfl rfl (fun w h Y => PySem.W.kIn_of Y) ?F fun K H a ns hl hS => ⟨a, ns, rfl, hS, hl, fun _ => rfl⟩
  case F =>
    intro w mg fa h KX G hmg
    refine' DR.all_mk hmg ⟨PySem.W.mg_none_of KX G ?z_tuple, PySem.W.mg_none_of KX G ?z_sorted, PySem.W.mg_none_of KX G ?z_range, PySem.W.mg_none_of KX G ?z_list, PySem.W.mg_none_of KX G ?z_len, PySem.W.mg_none_of KX G ?z_abs, PySem.W.mg_none_of KX G ?z_repr, PySem.W.mg_none_of KX G ?z_int, PySem.W.mg_none_of KX G ?z_bool, PySem.W.mg_none_of KX G ?z_dict, PySem.W.mg_none_of KX G ?z_min, PySem.W.mg_none_of KX G ?z_max, PySem.W.mg_none_of KX G ?z_zip, PySem.W.mg_none_of KX G ?z_all, PySem.W.mg_none_of KX G ?z_isinstance, PySem.W.mg_none_of KX G ?z_sum, PySem.W.mg_none_of KX G ?z_any, PySem.W.mg_none_of KX G ?z_str, PySem.W.mg_none_of KX G ?z_set⟩ ?D_is_whole ?D_from_sums ?D_normalize ?D_is_term ?D_is_polynomial ?D__law_pen ?D__law_draw ?D__law_pick ?D__law_shuffled ?D__law_prime ?D__law_integer ?D__law_normal ?D__law_odd_value ?D__law_pairs ?D__law_is_normal ?D__law_changed ?D_law
    (case z_tuple => k_is)
    (case z_sorted => k_is)
    (case z_range => k_is)
    (case z_list => k_is)
    (case z_len => k_is)
    (case z_abs => k_is)
    (case z_repr => k_is)
    (case z_int => k_is)
    (case z_bool => k_is)
    (case z_dict => k_is)
    (case z_min => k_is)
    (case z_max => k_is)
    (case z_zip => k_is)
    (case z_all => k_is)
    (case z_isinstance => k_is)
    (case z_sum => k_is)
    (case z_any => k_is)
    (case z_str => k_is)
    (case z_set => k_is)
    (case D_is_whole => refine' DR.df_mk KX G ?a ?l ?c ?k; (case a => k_is); (case l => k_is); (case c => k_is); (case k => k_is))
    (case D_from_sums => refine' DR.df_mk KX G ?a ?l ?c ?k; (case a => k_is); (case l => k_is); (case c => k_is); (case k => k_is))
    (case D_normalize => refine' DR.df_mk KX G ?a ?l ?c ?k; (case a => k_is); (case l => k_is); (case c => k_is); (case k => k_is))
    (case D_is_term => refine' DR.df_mk KX G ?a ?l ?c ?k; (case a => k_is); (case l => k_is); (case c => k_is); (case k => k_is))
    (case D_is_polynomial => refine' DR.df_mk KX G ?a ?l ?c ?k; (case a => k_is); (case l => k_is); (case c => k_is); (case k => k_is))
    (case D__law_pen => refine' DR.df_mk KX G ?a ?l ?c ?k; (case a => k_is); (case l => k_is); (case c => k_is); (case k => k_is))
    (case D__law_draw => refine' DR.df_mk KX G ?a ?l ?c ?k; (case a => k_is); (case l => k_is); (case c => k_is); (case k => k_is))
    (case D__law_pick => refine' DR.df_mk KX G ?a ?l ?c ?k; (case a => k_is); (case l => k_is); (case c => k_is); (case k => k_is))
    (case D__law_shuffled => refine' DR.df_mk KX G ?a ?l ?c ?k; (case a => k_is); (case l => k_is); (case c => k_is); (case k => k_is))
    (case D__law_prime => refine' DR.df_mk KX G ?a ?l ?c ?k; (case a => k_is); (case l => k_is); (case c => k_is); (case k => k_is))
    (case D__law_integer => refine' DR.df_mk KX G ?a ?l ?c ?k; (case a => k_is); (case l => k_is); (case c => k_is); (case k => k_is))
    (case D__law_normal => refine' DR.df_mk KX G ?a ?l ?c ?k; (case a => k_is); (case l => k_is); (case c => k_is); (case k => k_is))
    (case D__law_odd_value => refine' DR.df_mk KX G ?a ?l ?c ?k; (case a => k_is); (case l => k_is); (case c => k_is); (case k => k_is))
    (case D__law_pairs => refine' DR.df_mk KX G ?a ?l ?c ?k; (case a => k_is); (case l => k_is); (case c => k_is); (case k => k_is))
    (case D__law_is_normal => refine' DR.df_mk KX G ?a ?l ?c ?k; (case a => k_is); (case l => k_is); (case c => k_is); (case k => k_is))
    (case D__law_changed => refine' DR.df_mk KX G ?a ?l ?c ?k; (case a => k_is); (case l => k_is); (case c => k_is); (case k => k_is))
    (case D_law => refine' DR.df_mk KX G ?a ?l ?c ?k; (case a => k_is); (case l => k_is); (case c => k_is); (case k => k_is))
