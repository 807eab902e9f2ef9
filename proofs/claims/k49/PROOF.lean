import PyProof.Rows.All
import Wide.All
import OpenK.AllK
import Wide.FinOn
import HandS.Base
import HandS.Call
import HandS.List
import HandS.Comp
import HandS.Dict
import HandS.Iter
import HandS.Ends
import HandS.Words
import HandS.More
import HandS.Wide
import HandS.TupAny
import HandS.IsInst
import HandS.Zip
import HandS.Flow
import HandS.ForMost
import HandS.NoneIn
import HandS.SortInts
import PyProof.ReprRoads
import PyProof.ReprLen
import PySem.Challenge.RW_dialroad_k49_lengths_by_the_formula
set_option Elab.async false
set_option linter.all false
set_option maxRecDepth 100000
set_option maxHeartbeats 4000000
set_option exponentiation.threshold 500
/-! Polynomials as lists of pairs (exponent, coefficient): what they are worth, and when two of them are one. -/
namespace DR
abbrev Pol := List (Int × Int)
/-- the sum of the coefficients at e -/
def cf : Pol → Int → Int
  | [], _ => 0
  | t :: r, e => (if t.1 = e then t.2 else 0) + cf r e
theorem cf_nil (e : Int) : cf [] e = 0 := rfl
theorem cf_cons (t : Int × Int) (r : Pol) (e : Int) : cf (t :: r) e = (if t.1 = e then t.2 else 0) + cf r e := rfl
theorem cf_append : ∀ (f g : Pol) (e : Int), cf (f ++ g) e = cf f e + cf g e
  | [], g, e => by simp [cf]
  | t :: r, g, e => by
    rw [List.cons_append, cf_cons, cf_cons, cf_append r g e]
    omega
theorem cf_none : ∀ (f : Pol) (e : Int), (∀ t ∈ f, t.1 ≠ e) → cf f e = 0
  | [], _, _ => rfl
  | t :: r, e, h => by
    rw [cf_cons, if_neg (h t List.mem_cons_self), cf_none r e fun u hu => h u (List.mem_cons_of_mem _ hu)]
    rfl
theorem cf_ne {f : Pol} {e : Int} (h : cf f e ≠ 0) : ∃ t ∈ f, t.1 = e := by
  refine Classical.byContradiction fun q => h (cf_none f e fun t ht z => q ⟨t, ht, z⟩)
/-- canonical: ascending, coefficients from 1 to p - 1, worth F modulo p -/
structure Nf (p : Int) (g : Pol) (F : Int → Int) : Prop where
  asc : g.Pairwise fun x y => x.1 < y.1
  rng : ∀ t ∈ g, 0 < t.2 ∧ t.2 < p
  cof : ∀ e, cf g e = F e % p
theorem cf_head {t : Int × Int} {r : Pol} (h : (t :: r).Pairwise fun x y => x.1 < y.1) : cf (t :: r) t.1 = t.2 := by
  rw [cf_cons, if_pos rfl, cf_none r t.1 fun u hu z => ?_]
  · omega
  · have := (List.pairwise_cons.mp h).1 u hu
    omega
theorem asc_le {t : Int × Int} {r : Pol} (h : (t :: r).Pairwise fun x y => x.1 < y.1) {u : Int × Int} (hu : u ∈ t :: r) : t.1 ≤ u.1 := by
  rcases List.mem_cons.mp hu with e | e
  · rw [e]
    exact Int.le_refl _
  · exact Int.le_of_lt ((List.pairwise_cons.mp h).1 u e)
theorem cf_mem : ∀ {g : Pol}, (g.Pairwise fun x y => x.1 < y.1) → ∀ t ∈ g, cf g t.1 = t.2
  | [], _, t, h => absurd h List.not_mem_nil
  | u :: r, hp, t, h => by
    rcases List.mem_cons.mp h with e | e
    · rw [e]
      exact cf_head hp
    · have hlt := (List.pairwise_cons.mp hp).1 t e
      rw [cf_cons, if_neg (by omega), cf_mem (List.pairwise_cons.mp hp).2 t e]
      omega
theorem asc_ext : ∀ {g g' : Pol}, (g.Pairwise fun x y => x.1 < y.1) → (g'.Pairwise fun x y => x.1 < y.1) → (∀ t ∈ g, t.2 ≠ 0) → (∀ t ∈ g', t.2 ≠ 0) → (∀ e, cf g e = cf g' e) → g = g'
  | [], [], _, _, _, _, _ => rfl
  | [], u :: s, _, h', _, n', c => by
    have := c u.1
    rw [cf_head h'] at this
    exact absurd this.symm (n' u List.mem_cons_self)
  | t :: r, [], h, _, n, _, c => by
    have := c t.1
    rw [cf_head h] at this
    exact absurd this (n t List.mem_cons_self)
  | t :: r, u :: s, h, h', n, n', c => by
    have a1 : t.1 = u.1 := by
      have e1 := c t.1
      rw [cf_head h] at e1
      obtain ⟨x, hx, ex⟩ := cf_ne (f := u :: s) (e := t.1) (by rw [← e1]; exact n t List.mem_cons_self)
      have e2 := c u.1
      rw [cf_head h'] at e2
      obtain ⟨y, hy, ey⟩ := cf_ne (f := t :: r) (e := u.1) (by rw [e2]; exact n' u List.mem_cons_self)
      have l1 := asc_le h' hx
      have l2 := asc_le h hy
      omega
    have a2 : t.2 = u.2 := by
      have e1 := c t.1
      rw [cf_head h, a1, cf_head h'] at e1
      exact e1
    have e : t = u := Prod.ext a1 a2
    subst e
    congr 1
    refine asc_ext (List.pairwise_cons.mp h).2 (List.pairwise_cons.mp h').2 (fun x hx => n x (List.mem_cons_of_mem _ hx)) (fun x hx => n' x (List.mem_cons_of_mem _ hx)) fun e => ?_
    have := c e
    rw [cf_cons, cf_cons] at this
    omega
theorem Nf.uniq {p : Int} {g g' : Pol} {F F' : Int → Int} (a : Nf p g F) (b : Nf p g' F') (h : ∀ e, F e % p = F' e % p) : g = g' :=
  asc_ext a.asc b.asc (fun t ht => by have := a.rng t ht; omega) (fun t ht => by have := b.rng t ht; omega) fun e => by rw [a.cof, b.cof, h]
theorem Nf.to {p : Int} {g : Pol} {F F' : Int → Int} (a : Nf p g F) (h : ∀ e, F e % p = F' e % p) : Nf p g F' := ⟨a.asc, a.rng, fun e => by rw [a.cof, h]⟩
theorem Nf.self {p : Int} {g : Pol} {F : Int → Int} (a : Nf p g F) : Nf p g (cf g) := a.to fun e => by rw [a.cof, Int.emod_emod]
/-- every exponent of g is one of f's, where g is worth nothing where f has no exponent -/
theorem Nf.sub {p : Int} {g : Pol} {F : Int → Int} (a : Nf p g F) {L : List Int} (h : ∀ e, e ∉ L → F e % p = 0) : ∀ t ∈ g, t.1 ∈ L := fun t ht => by
  refine Classical.byContradiction fun n => ?_
  have e1 := a.cof t.1
  rw [cf_mem a.asc t ht, h _ n] at e1
  have := (a.rng t ht).1
  omega
theorem nd_len : ∀ {L M : List Int}, L.Nodup → (∀ x ∈ L, x ∈ M) → L.length ≤ M.length
  | [], M, _, _ => Nat.zero_le _
  | x :: L, M, h, s => by
    have hx : x ∈ M := s x List.mem_cons_self
    have n := (List.nodup_cons.mp h)
    have := nd_len (L := L) (M := M.erase x) n.2 fun y hy => by
      have hne : y ≠ x := fun e => n.1 (e ▸ hy)
      exact (List.mem_erase_of_ne hne).mpr (s y (List.mem_cons_of_mem _ hy))
    rw [List.length_erase_of_mem hx] at this
    have hp : 0 < M.length := List.length_pos_of_mem hx
    rw [List.length_cons]
    omega
theorem asc_nodup {g : Pol} (h : g.Pairwise fun x y => x.1 < y.1) : (g.map (·.1)).Nodup := by
  rw [List.nodup_iff_pairwise_ne, List.pairwise_map]
  exact h.imp fun q => by omega
theorem Nf.len {p : Int} {g : Pol} {F : Int → Int} (a : Nf p g F) {L : List Int} (h : ∀ e, e ∉ L → F e % p = 0) : g.length ≤ L.length := by
  have := nd_len (asc_nodup a.asc) (M := L) fun x hx => by
    obtain ⟨t, ht, rfl⟩ := List.mem_map.mp hx
    exact a.sub h t ht
  rw [List.length_map] at this
  exact this
theorem cf_out {f : Pol} {e : Int} (h : e ∉ f.map (·.1)) : cf f e = 0 := cf_none f e fun t ht z => h (z ▸ List.mem_map_of_mem ht)
/-! a dict of ints, by its pairs -/
def put : Pol → Int → Int → Pol
  | [], e, v => [(e, v)]
  | t :: r, e, v => if t.1 = e then (e, v) :: r else t :: put r e v
theorem put_keys : ∀ (m : Pol) (e v x : Int), x ∈ (put m e v).map (·.1) → x = e ∨ x ∈ m.map (·.1)
  | [], e, v, x, h => by
    have : x = e := by simpa [put] using h
    exact .inl this
  | t :: r, e, v, x, h => by
    unfold put at h
    split at h
    · rename_i q
      rcases List.mem_cons.mp h with z | z
      · exact .inl z
      · exact .inr (List.mem_cons_of_mem _ z)
    · rcases List.mem_cons.mp h with z | z
      · exact .inr (by rw [z]; exact List.mem_cons_self)
      · rcases put_keys r e v x z with w | w
        · exact .inl w
        · exact .inr (List.mem_cons_of_mem _ w)
theorem put_nodup : ∀ (m : Pol) (e v : Int), (m.map (·.1)).Nodup → ((put m e v).map (·.1)).Nodup
  | [], e, v, _ => by simp [put]
  | t :: r, e, v, h => by
    have h' : (t.1 :: r.map (·.1)).Nodup := h
    have n := List.nodup_cons.mp h'
    unfold put
    split
    · rename_i q
      show (e :: r.map (·.1)).Nodup
      rw [← q]
      exact h'
    · rename_i q
      show (t.1 :: (put r e v).map (·.1)).Nodup
      refine List.nodup_cons.mpr ⟨fun z => ?_, put_nodup r e v n.2⟩
      rcases put_keys r e v t.1 z with w | w
      · exact q w
      · exact n.1 w
theorem put_cf : ∀ (m : Pol) (e v x : Int), (m.map (·.1)).Nodup → cf (put m e v) x = if x = e then v else cf m x
  | [], e, v, x, _ => by
    show (if e = x then v else 0) + 0 = _
    by_cases q : x = e
    · rw [if_pos q, if_pos q.symm]
      omega
    · rw [if_neg q, if_neg (fun z => q z.symm)]
      rfl
  | t :: r, e, v, x, h => by
    have h' : (t.1 :: r.map (·.1)).Nodup := h
    have n := List.nodup_cons.mp h'
    unfold put
    split
    · rename_i q
      rw [cf_cons, cf_cons]
      by_cases z : x = e
      · rw [if_pos z, if_pos z.symm, cf_out (f := r) (e := x) (by rw [z, ← q]; exact n.1)]
        omega
      · rw [if_neg z, if_neg (fun w => z w.symm), if_neg (fun w => z (w.symm.trans q))]
    · rename_i q
      rw [cf_cons, cf_cons, put_cf r e v x n.2]
      by_cases z : x = e
      · rw [if_pos z, if_pos z, if_neg (by omega)]
        omega
      · rw [if_neg z, if_neg z]
theorem put_len : ∀ (m : Pol) (e v : Int), (put m e v).length ≤ m.length + 1
  | [], _, _ => Nat.le_refl _
  | t :: r, e, v => by
    unfold put
    split
    · exact Nat.le_succ _
    · have := put_len r e v
      rw [List.length_cons, List.length_cons]
      omega
/-! what the sorted keys give -/
def kept (p : Int) (F : Int → Int) (ys : List Int) : Pol := (ys.filter fun e => decide (F e % p ≠ 0)).map fun e => (e, F e % p)
theorem kept_nil (p : Int) (F : Int → Int) : kept p F [] = [] := rfl
theorem kept_snoc (p : Int) (F : Int → Int) (ys : List Int) (e : Int) : kept p F (ys ++ [e]) = kept p F ys ++ (if F e % p ≠ 0 then [(e, F e % p)] else []) := by
  unfold kept
  rw [List.filter_append, List.map_append]
  congr 1
  by_cases h : F e % p ≠ 0
  · rw [if_pos h]
    simp [h]
  · rw [if_neg h]
    have : F e % p = 0 := Classical.byContradiction h
    simp [this]
theorem kept_cf (p : Int) (F : Int → Int) : ∀ (ys : List Int) (x : Int), ys.Nodup → cf (kept p F ys) x = if x ∈ ys then F x % p else 0
  | [], x, _ => by simp [kept, cf]
  | y :: r, x, h => by
    have n := List.nodup_cons.mp h
    have ih := kept_cf p F r x n.2
    have e : kept p F (y :: r) = (if F y % p ≠ 0 then [(y, F y % p)] else []) ++ kept p F r := by
      unfold kept
      rw [List.filter_cons]
      by_cases q : F y % p ≠ 0
      · simp [q]
      · have : F y % p = 0 := Classical.byContradiction q
        simp [this]
    rw [e, cf_append, ih]
    by_cases z : x = y
    · subst z
      rw [if_neg n.1, if_pos List.mem_cons_self]
      by_cases q : F x % p ≠ 0
      · rw [if_pos q]
        simp [cf]
      · rw [if_neg q]
        have : F x % p = 0 := Classical.byContradiction q
        rw [this]
        rfl
    · have : cf (if F y % p ≠ 0 then [(y, F y % p)] else []) x = 0 := by
        refine cf_none _ _ fun t ht w => ?_
        split at ht
        · have : t = (y, F y % p) := by simpa using ht
          rw [this] at w
          exact z w.symm
        · cases ht
      rw [this]
      by_cases q : x ∈ r
      · rw [if_pos q, if_pos (List.mem_cons_of_mem _ q)]
        omega
      · rw [if_neg q, if_neg (fun w => (List.mem_cons.mp w).elim z q)]
        rfl
theorem le_nd_lt : ∀ {ys : List Int}, ys.Pairwise (· ≤ ·) → ys.Nodup → ys.Pairwise (· < ·)
  | [], _, _ => .nil
  | y :: r, h, n => by
    have a := List.pairwise_cons.mp h
    have b := List.nodup_cons.mp n
    refine List.pairwise_cons.mpr ⟨fun z hz => ?_, le_nd_lt a.2 b.2⟩
    have := a.1 z hz
    have : y ≠ z := fun q => b.1 (q ▸ hz)
    omega
theorem kept_nf {p : Int} {F : Int → Int} {ys : List Int} (hp : 0 < p) (h : ys.Pairwise (· ≤ ·)) (n : ys.Nodup) (z : ∀ e, e ∉ ys → F e % p = 0) : Nf p (kept p F ys) F := by
  refine ⟨?_, fun t ht => ?_, fun e => ?_⟩
  · unfold kept
    rw [List.pairwise_map]
    exact (le_nd_lt h n).sublist List.filter_sublist
  · unfold kept at ht
    obtain ⟨e, he, rfl⟩ := List.mem_map.mp ht
    have q := of_decide_eq_true (List.mem_filter.mp he).2
    have h1 := Int.emod_nonneg (F e) (show p ≠ 0 by omega)
    have h2 := Int.emod_lt_of_pos (F e) hp
    exact ⟨by show 0 < F e % p; omega, h2⟩
  · rw [kept_cf p F ys e n]
    by_cases q : e ∈ ys
    · rw [if_pos q]
    · rw [if_neg q, z e q]
theorem kept_len (p : Int) (F : Int → Int) (ys : List Int) : (kept p F ys).length ≤ ys.length := by
  unfold kept
  rw [List.length_map]
  exact List.length_filter_le _ _
/-! the sums that the functions make -/
theorem cf_scale (k : Int) : ∀ (f : Pol) (e : Int), cf (f.map fun t => (t.1, t.2 * k)) e = cf f e * k
  | [], e => by simp [cf]
  | t :: r, e => by
    rw [List.map_cons, cf_cons, cf_cons, cf_scale k r e, Int.add_mul]
    show (if t.1 = e then t.2 * k else 0) + _ = _
    by_cases h : t.1 = e
    · rw [if_pos h, if_pos h]
    · rw [if_neg h, if_neg h, Int.zero_mul]
def moved (n : Int) (f : Pol) : Pol := f.map fun t => (t.1 + n, t.2)
theorem cf_moved (n : Int) : ∀ (f : Pol) (e : Int), cf (moved n f) e = cf f (e - n)
  | [], e => rfl
  | t :: r, e => by
    show (if t.1 + n = e then t.2 else 0) + cf (moved n r) e = (if t.1 = e - n then t.2 else 0) + cf r (e - n)
    rw [cf_moved n r e]
    by_cases h : t.1 + n = e
    · rw [if_pos h, if_pos (by omega)]
    · rw [if_neg h, if_neg (by omega)]
theorem Nf.moved {p : Int} {g : Pol} {F : Int → Int} (a : Nf p g F) (n : Int) : Nf p (moved n g) (fun e => F (e - n)) := by
  refine ⟨?_, fun t ht => ?_, fun e => by rw [cf_moved, a.cof]⟩
  · unfold DR.moved
    rw [List.pairwise_map]
    exact a.asc.imp fun q => by omega
  · obtain ⟨u, hu, rfl⟩ := List.mem_map.mp (show t ∈ g.map fun t => (t.1 + n, t.2) from ht)
    exact a.rng u hu
/-- 1 at 0, s, .., (n - 1) * s -/
def rounds (n : Nat) (s : Int) : Pol := (List.range n).map fun (m : Nat) => ((m : Int) * s, (1 : Int))
/-- a term times a polynomial; all products of two terms -/
def times (t : Int × Int) (g : Pol) : Pol := g.map fun u => (t.1 + u.1, t.2 * u.2)
def prods (f g : Pol) : Pol := f.flatMap fun t => times t g
theorem prods_nil (g : Pol) : prods [] g = [] := rfl
theorem prods_snoc (f g : Pol) (t : Int × Int) : prods (f ++ [t]) g = prods f g ++ times t g := by
  unfold prods
  rw [List.flatMap_append]
  simp
theorem times_len (t : Int × Int) (g : Pol) : (times t g).length = g.length := by
  unfold times
  rw [List.length_map]
theorem prods_len : ∀ f g : Pol, (prods f g).length = f.length * g.length
  | [], g => by simp [prods]
  | t :: r, g => by
    show (times t g ++ prods r g).length = _
    rw [List.length_append, times_len, prods_len r g, List.length_cons, Nat.add_mul, Nat.one_mul, Nat.add_comm]
theorem prods_mem {f g : Pol} {x : Int × Int} (h : x ∈ prods f g) : ∃ t ∈ f, ∃ u ∈ g, x = (t.1 + u.1, t.2 * u.2) := by
  obtain ⟨t, ht, hx⟩ := List.mem_flatMap.mp h
  obtain ⟨u, hu, rfl⟩ := List.mem_map.mp (show x ∈ g.map fun u => (t.1 + u.1, t.2 * u.2) from hx)
  exact ⟨t, ht, u, hu, rfl⟩
end DR
/-! Products of polynomials: a ring without divisors of zero, modulo a prime. -/
namespace DR
/-- what the products of two polynomials are worth at e -/
def conv : Pol → (Int → Int) → Int → Int
  | [], _, _ => 0
  | t :: r, G, e => t.2 * G (e - t.1) + conv r G e
theorem cf_times (t : Int × Int) : ∀ (g : Pol) (e : Int), cf (times t g) e = t.2 * cf g (e - t.1)
  | [], e => by simp [times, cf]
  | u :: r, e => by
    show (if t.1 + u.1 = e then t.2 * u.2 else 0) + cf (times t r) e = t.2 * ((if u.1 = e - t.1 then u.2 else 0) + cf r (e - t.1))
    rw [cf_times t r e, Int.mul_add]
    by_cases h : t.1 + u.1 = e
    · rw [if_pos h, if_pos (by omega)]
    · rw [if_neg h, if_neg (by omega), Int.mul_zero]
theorem cf_prods : ∀ (f g : Pol) (e : Int), cf (prods f g) e = conv f (cf g) e
  | [], g, e => rfl
  | t :: r, g, e => by
    show cf (times t g ++ prods r g) e = _
    rw [cf_append, cf_times, cf_prods r g e]
    rfl
theorem conv_add (G G' : Int → Int) : ∀ (f : Pol) (e : Int), conv f (fun x => G x + G' x) e = conv f G e + conv f G' e
  | [], e => rfl
  | t :: r, e => by
    show t.2 * (G (e - t.1) + G' (e - t.1)) + conv r _ e = (t.2 * G (e - t.1) + conv r G e) + (t.2 * G' (e - t.1) + conv r G' e)
    rw [conv_add G G' r e, Int.mul_add]
    omega
theorem conv_congr {G G' : Int → Int} (h : ∀ x, G x = G' x) : ∀ (f : Pol) (e : Int), conv f G e = conv f G' e
  | [], e => rfl
  | t :: r, e => by
    show t.2 * G (e - t.1) + conv r G e = t.2 * G' (e - t.1) + conv r G' e
    rw [h, conv_congr h r e]
theorem conv_mod {p : Int} {G G' : Int → Int} (h : ∀ x, G x % p = G' x % p) : ∀ (f : Pol) (e : Int), conv f G e % p = conv f G' e % p
  | [], e => rfl
  | t :: r, e => by
    show (t.2 * G (e - t.1) + conv r G e) % p = (t.2 * G' (e - t.1) + conv r G' e) % p
    rw [Int.add_emod, Int.mul_emod, h, conv_mod h r e, ← Int.mul_emod, ← Int.add_emod]
theorem conv_smul (k : Int) (G : Int → Int) : ∀ (f : Pol) (e : Int), conv f (fun x => k * G x) e = k * conv f G e
  | [], e => by show (0 : Int) = k * 0; rw [Int.mul_zero]
  | t :: r, e => by
    show t.2 * (k * G (e - t.1)) + conv r _ e = k * (t.2 * G (e - t.1) + conv r G e)
    rw [conv_smul k G r e, Int.mul_add, Int.mul_left_comm]
/-- a single term added on the right -/
theorem conv_snd (u : Int × Int) (G : Int → Int) (f : Pol) (e : Int) : conv f (fun x => (if u.1 = x then u.2 else 0) + G x) e = u.2 * cf f (e - u.1) + conv f G e := by
  rw [conv_add]
  congr 1
  induction f with
  | nil => show (0 : Int) = u.2 * 0; rw [Int.mul_zero]
  | cons t r ih =>
    show t.2 * (if u.1 = e - t.1 then u.2 else 0) + conv r _ e = u.2 * ((if t.1 = e - u.1 then t.2 else 0) + cf r (e - u.1))
    rw [ih, Int.mul_add]
    by_cases h : u.1 = e - t.1
    · rw [if_pos h, if_pos (by omega), Int.mul_comm]
    · rw [if_neg h, if_neg (by omega), Int.mul_zero, Int.mul_zero]
theorem conv_zero : ∀ (f : Pol) (e : Int), conv f (fun _ => 0) e = 0
  | [], e => rfl
  | t :: r, e => by
    show t.2 * 0 + conv r _ e = 0
    rw [conv_zero r e, Int.mul_zero]
    rfl
/-- both ways about -/
theorem conv_comm : ∀ (g f : Pol) (e : Int), conv f (cf g) e = conv g (cf f) e
  | [], f, e => (conv_congr (G' := fun _ => 0) (fun _ => rfl) f e).trans (conv_zero f e)
  | u :: r, f, e => by
    show conv f (fun x => (if u.1 = x then u.2 else 0) + cf r x) e = u.2 * cf f (e - u.1) + conv r (cf f) e
    rw [conv_snd, conv_comm r f e]
/-- f counts by its worth alone, modulo p -/
theorem conv_fst {p : Int} {f f' : Pol} (h : ∀ x, cf f x % p = cf f' x % p) (g : Pol) (e : Int) : conv f (cf g) e % p = conv f' (cf g) e % p := by
  rw [conv_comm g f, conv_comm g f', conv_mod h g e]
theorem conv_append : ∀ (f f' : Pol) (G : Int → Int) (e : Int), conv (f ++ f') G e = conv f G e + conv f' G e
  | [], f', G, e => by show conv f' G e = 0 + conv f' G e; rw [Int.zero_add]
  | t :: r, f', G, e => by
    show t.2 * G (e - t.1) + conv (r ++ f') G e = (t.2 * G (e - t.1) + conv r G e) + conv f' G e
    rw [conv_append r f' G e]
    omega
theorem conv_times (t : Int × Int) (G : Int → Int) : ∀ (g : Pol) (e : Int), conv (times t g) G e = t.2 * conv g G (e - t.1)
  | [], e => by show (0 : Int) = t.2 * 0; rw [Int.mul_zero]
  | u :: r, e => by
    show (t.2 * u.2) * G (e - (t.1 + u.1)) + conv (times t r) G e = t.2 * (u.2 * G (e - t.1 - u.1) + conv r G (e - t.1))
    rw [conv_times t G r e, Int.mul_add, Int.mul_assoc, show e - (t.1 + u.1) = e - t.1 - u.1 by omega]
theorem conv_assoc : ∀ (f g : Pol) (G : Int → Int) (e : Int), conv (prods f g) G e = conv f (conv g G) e
  | [], g, G, e => rfl
  | t :: r, g, G, e => by
    show conv (times t g ++ prods r g) G e = t.2 * conv g G (e - t.1) + conv r (conv g G) e
    rw [conv_append, conv_times, conv_assoc r g G e]
theorem conv_moved (n : Int) (G : Int → Int) : ∀ (f : Pol) (e : Int), conv (moved n f) G e = conv f G (e - n)
  | [], e => rfl
  | t :: r, e => by
    show t.2 * G (e - (t.1 + n)) + conv (moved n r) G e = t.2 * G (e - n - t.1) + conv r G (e - n)
    rw [conv_moved n G r e, show e - (t.1 + n) = e - n - t.1 by omega]
theorem mul_emod_l (a b p : Int) : a % p * b % p = a * b % p := by rw [Int.mul_emod, Int.emod_emod, ← Int.mul_emod]
theorem add_emod_l (a b p : Int) : (a % p + b) % p = (a + b) % p := Int.emod_add_emod a p b
theorem sub_mod_eq {a b p : Int} (h : (a - b) % p = 0) : a % p = b % p := by
  have : a = b + (a - b) := by omega
  rw [this, Int.add_emod, h, Int.add_zero, Int.emod_emod]
/-- the least exponents' term of a product -/
theorem conv_least {t u : Int × Int} {r s : Pol} (h : (t :: r).Pairwise fun x y => x.1 < y.1) (h' : (u :: s).Pairwise fun x y => x.1 < y.1) : conv (t :: r) (cf (u :: s)) (t.1 + u.1) = t.2 * u.2 := by
  show t.2 * cf (u :: s) (t.1 + u.1 - t.1) + conv r (cf (u :: s)) (t.1 + u.1) = t.2 * u.2
  rw [show t.1 + u.1 - t.1 = u.1 by omega, cf_head h']
  have : ∀ r : Pol, (∀ x ∈ r, t.1 < x.1) → conv r (cf (u :: s)) (t.1 + u.1) = 0 := by
    intro r
    induction r with
    | nil => intro _; rfl
    | cons x r ih =>
      intro hx
      show x.2 * cf (u :: s) (t.1 + u.1 - x.1) + conv r _ _ = 0
      rw [ih fun y hy => hx y (List.mem_cons_of_mem _ hy), cf_none (u :: s) _ fun y hy e => ?_, Int.mul_zero]
      · rfl
      · have l1 := asc_le h' hy
        have l2 := hx x List.mem_cons_self
        omega
  rw [this r (List.pairwise_cons.mp h).1]
  omega
/-- geometric sums close up -/
theorem rounds_succ (n : Nat) (s : Int) : rounds (n + 1) s = rounds n s ++ [((n : Int) * s, 1)] := by
  unfold rounds
  rw [List.range_succ, List.map_append]
  rfl
theorem rounds_tel (s e : Int) : ∀ n : Nat, cf (rounds n s) e - cf (rounds n s) (e - s) = (if 0 = e then 1 else 0) - (if (n : Int) * s = e then 1 else 0)
  | 0 => by
    show (0 : Int) - 0 = _
    simp
  | n + 1 => by
    rw [rounds_succ, cf_append, cf_append, cf_cons, cf_cons, cf_nil, cf_nil]
    have ih := rounds_tel s e n
    show cf (rounds n s) e + ((if (n : Int) * s = e then 1 else 0) + 0) - (cf (rounds n s) (e - s) + ((if (n : Int) * s = e - s then 1 else 0) + 0)) = _
    have e1 : (((n + 1 : Nat) : Int) * s = e) ↔ ((n : Int) * s = e - s) := by
      rw [Int.natCast_add, Int.add_mul]
      constructor <;> intro h <;> omega
    by_cases h1 : (n : Int) * s = e - s
    · rw [if_pos h1, if_pos (e1.mpr h1)]
      omega
    · rw [if_neg h1, if_neg (fun z => h1 (e1.mp z))]
      omega
end DR
/-! Powers: the rounds of an effect added up, forwards and backwards. -/
namespace DR
def upF (F : Int → Int) (m : Int) : Nat → Int → Int
  | 0, _ => 0
  | n + 1, e => upF F m n e + F (e - (n : Int) * m)
def dnF (F : Int → Int) (m : Int) : Nat → Int → Int
  | 0, _ => 0
  | n + 1, e => dnF F m n e + F (e + ((n : Int) + 1) * m)
/-- what c rounds of an effect with the worth F and the shift m turn -/
def pwF (F : Int → Int) (m : Int) : Int → Int → Int
  | .ofNat n, e => upF F m n e
  | .negSucc n, e => - dnF F m (n + 1) e
theorem pw_zero (F : Int → Int) (m e : Int) : pwF F m 0 e = 0 := rfl
theorem pw_succ (F : Int → Int) (m : Int) : ∀ (c e : Int), pwF F m (c + 1) e = pwF F m c e + F (e - c * m)
  | .ofNat n, e => rfl
  | .negSucc 0, e => by
    show pwF F m (Int.negSucc 0 + 1) e = - (0 + F (e + ((0 : Int) + 1) * m)) + F (e - Int.negSucc 0 * m)
    rw [show Int.negSucc 0 + 1 = 0 from rfl, pw_zero, show Int.negSucc 0 = (-1 : Int) from rfl, show e - -1 * m = e + (0 + 1) * m by omega]
    omega
  | .negSucc (n + 1), e => by
    rw [show Int.negSucc (n + 1) + 1 = Int.negSucc n from rfl]
    show - dnF F m (n + 1) e = - (dnF F m (n + 1) e + F (e + (((n + 1 : Nat) : Int) + 1) * m)) + F (e - Int.negSucc (n + 1) * m)
    have h : Int.negSucc (n + 1) = -(((n + 1 : Nat) : Int) + 1) := by omega
    rw [h, Int.neg_mul, Int.sub_neg]
    omega
theorem int_ind {P : Int → Prop} (h0 : P 0) (hs : ∀ c, P c ↔ P (c + 1)) (c : Int) : P c := by
  have up : ∀ n : Nat, P (n : Int) := fun n => by
    induction n with
    | zero => exact h0
    | succ n ih =>
      have := (hs (n : Int)).mp ih
      exact this
  have dn : ∀ n : Nat, P (-(n : Int)) := fun n => by
    induction n with
    | zero => exact h0
    | succ n ih =>
      refine (hs _).mpr ?_
      rw [show -((n + 1 : Nat) : Int) + 1 = -(n : Int) by omega]
      exact ih
  by_cases h : 0 ≤ c
  · have := up c.toNat
    rw [Int.toNat_of_nonneg h] at this
    exact this
  · have := dn (-c).toNat
    rw [Int.toNat_of_nonneg (by omega), Int.neg_neg] at this
    exact this
theorem pw_add (F : Int → Int) (m a : Int) : ∀ (b e : Int), pwF F m (a + b) e = pwF F m a e + pwF F m b (e - a * m) := by
  intro b
  refine int_ind (P := fun b => ∀ e, pwF F m (a + b) e = pwF F m a e + pwF F m b (e - a * m)) (fun e => ?_) (fun c => ?_) b
  · rw [Int.add_zero, pw_zero, Int.add_zero]
  · have key : ∀ e, F (e - (a + c) * m) = F (e - a * m - c * m) := fun e => by
      congr 1
      rw [Int.add_mul]
      omega
    constructor
    · intro h e
      rw [← Int.add_assoc, pw_succ, pw_succ, h e, key]
      omega
    · intro h e
      have h' := h e
      rw [← Int.add_assoc, pw_succ, pw_succ, key] at h'
      omega
theorem pw_neg (F : Int → Int) (m a e : Int) : pwF F m (-a) e = - pwF F m a (e + a * m) := by
  have h := pw_add F m (-a) a e
  rw [Int.add_left_neg, pw_zero, Int.neg_mul, Int.sub_neg] at h
  omega
theorem pw_one (F : Int → Int) (m e : Int) : pwF F m 1 e = F e := by
  show 0 + F (e - ((0 : Nat) : Int) * m) = F e
  rw [Int.zero_add, show e - ((0 : Nat) : Int) * m = e by omega]
theorem pw_congr {F G : Int → Int} (h : ∀ x, F x = G x) (m c e : Int) : pwF F m c e = pwF G m c e := by
  rw [show F = G from funext h]
theorem pw_mod {q : Int} {F G : Int → Int} (h : ∀ x, F x % q = G x % q) (m : Int) : ∀ c e : Int, pwF F m c e % q = pwF G m c e % q := by
  intro c
  refine int_ind (P := fun c => ∀ e, pwF F m c e % q = pwF G m c e % q) (fun e => rfl) (fun c => ?_) c
  constructor
  · intro k e
    rw [pw_succ, pw_succ, Int.add_emod, k e, h, ← Int.add_emod]
  · intro k e
    have e1 := k e
    rw [pw_succ, pw_succ] at e1
    have e2 : pwF F m c e = pwF F m c e + F (e - c * m) - F (e - c * m) := by omega
    have e3 : pwF G m c e = pwF G m c e + G (e - c * m) - G (e - c * m) := by omega
    rw [e2, e3, Int.sub_emod, e1, h (e - c * m), ← Int.sub_emod]
/-- the inverse's rounds are rounds backwards -/
theorem pw_inv (F : Int → Int) (m : Int) : ∀ c e : Int, pwF (fun x => F (x + m) * -1) (-m) c e = pwF F m (-c) e := by
  intro c
  refine int_ind (P := fun c => ∀ e, pwF (fun x => F (x + m) * -1) (-m) c e = pwF F m (-c) e) (fun e => rfl) (fun c => ?_) c
  have key : ∀ e, pwF F m (-c) e = pwF F m (-(c + 1)) e + F (e + c * m + m) := fun e => by
    have h := pw_succ F m (-(c + 1)) e
    rw [show -(c + 1) + 1 = -c by omega, Int.neg_mul, Int.sub_neg, Int.add_mul, Int.one_mul, ← Int.add_assoc] at h
    exact h
  have k2 : ∀ e, F (e - c * -m + m) * -1 = - F (e + c * m + m) := fun e => by
    rw [show e - c * -m + m = e + c * m + m by rw [Int.mul_neg]; omega]
    omega
  constructor
  · intro h e
    rw [pw_succ, h e, k2, key e]
    omega
  · intro h e
    have h' := h e
    rw [pw_succ, k2] at h'
    rw [key e]
    omega
theorem pw_mul (F : Int → Int) (m a : Int) : ∀ b e : Int, pwF (fun x => pwF F m a x) (a * m) b e = pwF F m (a * b) e := by
  intro b
  refine int_ind (P := fun b => ∀ e, pwF (fun x => pwF F m a x) (a * m) b e = pwF F m (a * b) e) (fun e => by rw [Int.mul_zero, pw_zero, pw_zero]) (fun c => ?_) b
  have key : ∀ e, pwF F m (a * (c + 1)) e = pwF F m (a * c) e + pwF F m a (e - c * (a * m)) := fun e => by
    rw [Int.mul_add, Int.mul_one, pw_add, show a * c * m = c * (a * m) by rw [Int.mul_comm a c, Int.mul_assoc]]
  constructor
  · intro h e
    rw [pw_succ, h e, key e]
  · intro h e
    have h' := h e
    rw [pw_succ, key e] at h'
    omega
/-- led by another effect -/
theorem pw_led (F G : Int → Int) (m n : Int) : ∀ b e : Int, pwF (fun x => G (x + n) * -1 + F (x + n) + G (x + n - m)) m b e = G (e + n) * -1 + pwF F m b (e + n) + G (e + n - b * m) := by
  intro b
  refine int_ind (P := fun b => ∀ e, pwF (fun x => G (x + n) * -1 + F (x + n) + G (x + n - m)) m b e = G (e + n) * -1 + pwF F m b (e + n) + G (e + n - b * m)) (fun e => by rw [pw_zero, pw_zero, Int.zero_mul, Int.sub_zero]; omega) (fun c => ?_) b
  have key : ∀ e, G (e - c * m + n) * -1 + F (e - c * m + n) + G (e - c * m + n - m) = G (e + n - c * m) * -1 + F (e + n - c * m) + G (e + n - (c + 1) * m) := fun e => by
    rw [show e - c * m + n = e + n - c * m by omega, show e + n - c * m - m = e + n - (c + 1) * m by rw [Int.add_mul]; omega]
  constructor
  · intro h e
    rw [pw_succ, pw_succ, h e, key]
    omega
  · intro h e
    have h' := h e
    rw [pw_succ, pw_succ, key] at h'
    omega
theorem conv_rounds (f : Pol) (m : Int) : ∀ (n : Nat) (e : Int), conv f (cf (rounds n m)) e = upF (cf f) m n e
  | 0, e => (conv_congr (G' := fun _ => 0) (fun _ => rfl) f e).trans (conv_zero f e)
  | n + 1, e => by
    have h : ∀ x, cf (rounds (n + 1) m) x = (if ((n : Int) * m, (1 : Int)).1 = x then ((n : Int) * m, (1 : Int)).2 else 0) + cf (rounds n m) x := fun x => by
      rw [rounds_succ, cf_append, cf_cons, cf_nil]
      omega
    rw [conv_congr h, conv_snd, conv_rounds f m n e]
    show 1 * cf f (e - (n : Int) * m) + upF (cf f) m n e = upF (cf f) m n e + cf f (e - (n : Int) * m)
    omega
theorem pw_rounds (f : Pol) (m : Int) {c : Int} (h : 0 ≤ c) (e : Int) : conv f (cf (rounds c.toNat m)) e = pwF (cf f) m c e := by
  obtain ⟨n, rfl⟩ : ∃ n : Nat, c = (n : Int) := ⟨c.toNat, by omega⟩
  rw [Int.toNat_natCast, conv_rounds]
  rfl
theorem up_far {F : Int → Int} {m e : Int} : ∀ n : Nat, (∀ k : Int, k.natAbs ≤ n → F (e - k * m) = 0) → upF F m n e = 0
  | 0, _ => rfl
  | n + 1, h => by
    show upF F m n e + F (e - (n : Int) * m) = 0
    rw [up_far n fun k hk => h k (by omega), h (n : Int) (by omega)]
    rfl
theorem dn_far {F : Int → Int} {m e : Int} : ∀ n : Nat, (∀ k : Int, k.natAbs ≤ n → F (e - k * m) = 0) → dnF F m n e = 0
  | 0, _ => rfl
  | n + 1, h => by
    show dnF F m n e + F (e + ((n : Int) + 1) * m) = 0
    have h1 := h (-((n : Int) + 1)) (by omega)
    rw [Int.neg_mul, Int.sub_neg] at h1
    rw [dn_far n fun k hk => h k (by omega), h1]
    rfl
theorem pw_far {F : Int → Int} {m e : Int} : ∀ c : Int, (∀ k : Int, k.natAbs ≤ c.natAbs → F (e - k * m) = 0) → pwF F m c e = 0
  | .ofNat n, h => up_far n h
  | .negSucc n, h => by
    show - dnF F m (n + 1) e = 0
    rw [dn_far (n + 1) h]
    rfl
theorem pw_flat (F : Int → Int) (e : Int) : ∀ c : Int, pwF F 0 c e = c * F e := by
  intro c
  refine int_ind (P := fun c => pwF F 0 c e = c * F e) (by rw [pw_zero, Int.zero_mul]) (fun c => ?_) c
  rw [pw_succ, Int.mul_zero, Int.sub_zero, Int.add_mul, Int.one_mul]
  omega
end DR
/-! What the laws of one document share: a few rules more of the hand layer, and polynomials in the heap. -/
namespace DR
open PySem PySem.Spec PyProof.Rows L2
section
variable {P : Program} {w : World} {A : Around} {E : Value → Shared → Prop}
/-- the second half of `sorted`: the members stand gathered and are ints; they go into a new list, and that is put in order -/
theorem order_ints {now : Shared} {items : List Value} {nums : List Int} {after : PySem.Fin → Shared → Prop} (whole : IntsAre items nums) (room : items.length ≤ sizeLine)
    (next : ∀ (g : Heap) (arr : Array Value) (stamp : Nat) (ys : List Int), (∀ b u, now.heap.get? b = some u → g.get? b = some u) → g.get? now.heap.objs.size = some (seqObj "list" arr stamp) → IntsAre arr.toList ys →
      ys.Perm nums → ys.Pairwise (· ≤ ·) → after (.done (.ret (.ref now.heap.objs.size))) { now with heap := g }) :
    wpAny (model P w) A (do let l ← newList items; let _ ← holding [l] (call (.builtin "list.sort") [l] []); ret l) after E now := by
  have laid : (now.heap.push (seqObj "list" items.toArray 0)).get? now.heap.objs.size = some (seqObj "list" items.toArray 0) := Heap.get?_push_size _ rfl
  have done : ∀ out : List Value, SrtO.Srtd SrtO.ltIv out → SrtO.Stb SrtO.ltIv out items →
      after (.done (.ret (.ref now.heap.objs.size))) { now with heap := sortedHeap (now.heap.push (seqObj "list" items.toArray 0)) now.heap.objs.size items out.toArray } := fun out asc same => by
    obtain ⟨numb, perm, up⟩ := SrtO.ints_out whole asc same
    obtain ⟨stamp, there⟩ := sortedHeap_at (vs := items) (out := out.toArray) laid
    refine next _ out.toArray stamp (out.map SrtO.iv) (fun b u old => ?_) there (by simpa using numb) perm up
    have below : b < now.heap.objs.size := Heap.lt_size old
    have wider : b < (now.heap.push (seqObj "list" items.toArray 0)).objs.size := by
      rw [size_push']
      exact Nat.lt_succ_of_lt below
    exact (sortedHeap_old (Nat.ne_of_lt below) wider).trans (Heap.get?_push_of_some _ old)
  have sorts := SrtO.list_sort_ord (prog := P) (w := w) (A := A.in1) (E := E) (s := { now with heap := now.heap.push (seqObj "list" items.toArray 0) }) (R := fun r s' => r = .done (.ret .none) ∧ ∃ out : List Value, SrtO.Srtd SrtO.ltIv out ∧ SrtO.Stb SrtO.ltIv out items ∧ s' = { now with heap := sortedHeap (now.heap.push (seqObj "list" items.toArray 0)) now.heap.objs.size items out.toArray })
    SrtO.swo_int laid room (fun two => SrtO.ints_sortable whole two) fun out asc same => ⟨rfl, out, asc, same, rfl⟩
  refine wpAny_bind (wpAny_newList (wpAny_bind (wpAny_holding ?_)) room)
  refine wpAny_call_entry slot_list_sort ⟨_, laid, rfl⟩ entry_list_sort ?_ (args_list_sort _)
  refine wpAny_mono sorts (fun r s' told => ?_) fun e s' told => told
  obtain ⟨rfl, out, asc, same, rfl⟩ := told
  exact ⟨_, rfl, wpAny_pure (done out asc same)⟩
end
section
variable {X : Cx}
/-- sorted(d), the keys ints, however many -/
theorem call_sortedDA (calm : X.calm = true) : CallR X (.builtin "sorted") (fun given G K => ∃ (d : Addr) (kvs : List (Key × V)) (ks : List Int), given = [.ref d] ∧ Rd G d (.dK kvs) ∧ kvs.map (·.1) = ks.map Sum.inl ∧
    ∀ (ys : List Int) (p : Addr), ys.Perm ks → (ys.Pairwise fun u v => u ≤ v) → G p = none → K (.ref p) (upd G p (.lst (ys.map V.int)))) := by
  intro pins now σ G given us K I r told
  obtain ⟨d, kvs, ks, rfl, hd, hks, told⟩ := told
  rw [Vals.ref1 r]
  obtain ⟨few, loose, pairs, rel, dd⟩ := dk_rd I.hok hd
  obtain ⟨ep, at_d⟩ := dd.dictAt
  have keys : pairs.map (·.1) = ks.map Sum.inl := hks ▸ rel.keys.symm
  have len : pairs.length = ks.length := by simpa using congrArg List.length keys
  have lkv : kvs.length = ks.length := by simpa using congrArg List.length hks
  have fits : pairs.length ≤ sizeLine := by
    rw [len, ← lkv]
    exact few
  refine Calls.call_function_entry kind_sorted plain_sorted entry_sorted (args_sorted1 _) ?_
  unfold Builtin.«sorted»
  refine wpAny_bind (m := checkCount "sorted" 1 1 _) (wpAny_pure (wpAny_bind (PySem.W.kdu_collect (A := X.A.in1) (PySem.W.kdl_dict (knd := mixKind X.prog X.w) (kvs := pairs) (ep := ep) loose) (I.ok.hd calm) at_d fits fun g1 toks acc kept each => ?_)))
  have lacc : acc.toList.length = ks.length := by rw [Array.length_toList, each.1, len]
  have whole : IntsAre acc.toList ks := ints_each lacc fun j v e => by
    obtain ⟨k, _, here, like⟩ := each.2 j v (by simpa using e)
    have key : (ks.map Sum.inl)[j]? = some k := by rw [← keys, List.getElem?_map, here]; rfl
    rw [List.getElem?_map] at key
    obtain ⟨y, hy, rfl⟩ := Option.map_eq_some_iff.mp key
    rcases keyIs_shape (show keyIs (Sum.inl y) v = true from like) with ⟨i, t, ek, ev⟩ | ⟨_, _, ek, _⟩
    · cases ek
      exact ⟨y, t, hy, ev⟩
    · cases ek
  have I1 : Inv X pins σ G { now with heap := g1, toks := toks } := I.kept kept
  refine order_ints whole (by rw [lacc, ← lkv]; exact few) fun g arr stamp ys old there numb perm up => ?_
  have fit : (ys.map V.int).length ≤ sizeLine := by
    rw [List.length_map, perm.length_eq, ← lkv]
    exact few
  exact ⟨_, rfl, .ref g1.objs.size, _, I1.laid (t' := toks) (o := .lst (ys.map V.int)) old (Nat.le_refl _) ⟨fit, arr.toList, stamp, vals_of_ints numb, there⟩, rfl, told ys _ perm up (I1.hok.fresh (Nat.le_refl _))⟩
/-- repr(x), x data of any depth, where no other repr runs -/
theorem call_reprD (hg : X.A.guards = some []) (hu : X.A.units + 100 < cLine) : CallR X (.builtin "repr") (fun xs H Q => ∃ (x : V) (d : PyData), xs = [x] ∧ (∃ a, x = .ref a) ∧ Dp X.K H x d ∧ d.showable = true ∧ d.hasDict = false ∧ d.depth ≤ 64 ∧ d.shown.length ≤ sizeLine ∧ Q (.str d.shown) H) := by
  intro pins s σ H xs us Q I r h
  obtain ⟨x, d, rfl, ⟨a, rfl⟩, hd, hs, hn, hz, hl, q⟩ := h
  obtain ⟨u, rfl, rx⟩ := vals1 r
  cases rx
  obtain ⟨as, rd⟩ := Dp.reads I d _ _ hd rfl
  refine repr_of_reads' rd hs (fun z => absurd z (by rw [hn]; exact Bool.false_ne_true)) hg (by omega) (fun _ _ e => e) (fun h' t tk hk => ?_) hl
  exact ⟨.str d.shown, H, I.kept hk, ⟨t, rfl⟩, q⟩
end
end DR
namespace DR
open PySem PySem.Spec PyProof.Rows L2
/-! ### the law's own def is called once, by the caller alone: there no repr runs (guards), which FnOk can't say -/
/-- a promise kept where the law is called -/
def Kept (P : Program) (w : World) (K : PySem.W.Frag) (mg : Str → Option Value) (base : Heap) (f : Addr) (fd : FuncData) (ps : List Str) (sp : Sp) : Prop :=
  ∀ (s : Shared) (H : Hp) (args : Args) (us : List Value) (vs : List V) (Q : VK) (E : XK), Env0 P w K mg base callerA [] s H → BindsTo s fd args (ps.zip us) →
    Vals vs us → sp vs H Q E → codeAny (model P w) callerA (.call (.ref f) args) (CR CX0 [] P w H s Q E) s
theorem kept_of {P : Program} {w : World} {K : PySem.W.Frag} {mg : Str → Option Value} {base : Heap} {x qual : Str} {st : Stmt} {f : Addr} {fd : FuncData} {N ps : List Str} {k : Nat} {sp : Sp} (F : Fun K x qual st f fd) (S : FnScope N ps (defScope st))
    (len : ∀ vs H Q E, sp vs H Q E → vs.length = ps.length) (room : Room (k + 1) callerA)
    (body : ∀ (cdv : Value) (s : Shared) (H : Hp) (vs : List V) (Q : VK) (E : XK), Room k (callerA.deeper (envOfC qual (defScope st) s.heap.objs.size f cdv)) → sp vs H Q E →
      ∃ t, PSs (cxOf CX0 P w K mg base N qual (defScope st) f cdv callerA [] s H E).nox (defBody st) t ∧ t { nx := fun _ H' => Q .non H', rt := Q } (start N vs) H) : Kept P w K mg base f fd ps sp := by
  obtain ⟨_, _, _, _, _, _, cdv, _, _, rfl, found, code⟩ := F.ex
  intro s H args us vs Q E e0 hb r hsp
  have hl := len _ _ _ _ hsp
  have kin : K.In s.heap := e0.mod.kin.keeps fun b o e => (e0.bs b o e).1
  have free := e0.mod.nolimit.keeps fun b o e => (e0.bs b o e).1
  have kinds : ∀ y ∈ ps.zip us, (defScope st).names.lookup y.1 = some .local ∨ ((defScope st).names.lookup y.1 = some .cell ∧ ((cellsFrom (s.heap.objs.size + 1) (defScope st).names []).lookup y.1).isSome = true) := by
    rintro ⟨n, v⟩ hy
    exact (S.par n (List.of_mem_zip hy).1).imp_right fun q => ⟨q, PySem.W.cellsFrom_some _ _ _ (.inl q)⟩
  refine codeAny_call_function room.depth (kin _ _ found) rfl S.co S.gen rfl (PySem.W.codeRec_of kin code) (hb _ _ _ _ ?_)
  refine wpAny_newFunctionEnv_cells S.kind kinds fun env he s1 z => ?_
  subst he
  refine ⟨free.keeps z.toInCall.keep, codeAny_func ?_⟩
  obtain ⟨t, ht, hq⟩ := body cdv s H vs Q E (room.deeper _) hsp
  have I : Inv (cxOf CX0 P w K mg base N qual (defScope st) f cdv callerA [] s H E) [] (start N vs) H s1 := inv_start S room.hd e0 hl r z
  refine wpAny_mono (ht.nox.run [] s1 (start N vs) H _ I hq) (fun fl s2 hs => ?_) fun e s2 hs => hs
  cases fl with
  | ret u =>
    obtain ⟨v, _, H', J, rv, q⟩ := hs
    exact ⟨v, H', J.os, J.bare, J.base, J.hok, rv, q⟩
  | next =>
    obtain ⟨_, H', J, q⟩ := hs
    exact ⟨.non, H', J.os, J.bare, J.base, J.hok, rfl, q⟩
  | brk => exact hs.elim fun _ z => z.elim fun _ y => y.2.elim
  | cont => exact hs.elim fun _ z => z.elim fun _ y => y.2.elim
/-- what the judge asks of the law's call -/
abbrev Passed (before : Shared) : Except Value Flow → Shared → Prop := fun r s' => r = .ok (.ret (.bool true)) ∧ OldK before.heap s'.heap ∧ s'.os = before.os ∧ AllBare s'.gens
/-- the names of the module and of the builtins, as they stand before the call -/
structure Stand (K : PySem.W.Frag) (mg mb : Str → Option Value) (before : Shared) : Prop where
  kin : K.In before.heap
  mod : before.heap.Ns mainGlobals mg
  std : before.heap.Ns builtinsNs mb
  boot : ∀ x : Str, x ≠ "__name__" → mb x = bootBuiltins x
  free : before.heap.NoLimit
  none : before.gens = #[]
theorem law_kept {P : Program} {w : World} {K : PySem.W.Frag} {mg mb : Str → Option Value} {fa a : Addr} {fd : FuncData} {x : Str} {sp : Sp} {s₁ : Shared} {vs : List Value} {ns : List Int}
    (W : Stand K mg mb s₁)
    (ha : s₁.heap.get? a = some { cls := .type "list", data := .seq vs.toArray }) (hi : IntsAre vs ns) (hl : ns.length ≤ sizeLine)
    (F : ∀ base : Heap, K.In base → base.Ns mainGlobals mg → Kept P w K mg base fa fd [x] sp) (hbind : ∀ (s : Shared) (u : Value), BindsTo s fd ⟨[u], []⟩ [(x, u)])
    (hsp : ∀ H : Hp, Only H → SqL K H a (ns.map V.int) → sp [.ref a] H (fun v _ => v = .bl true) fun _ _ _ => False) :
    codeAny (model P w) callerA (.call (.ref fa) ⟨[.ref a], []⟩) (Passed s₁) s₁ := by
  have rv := vals_ints hi
  have core : ∀ H : Hp, Only H → SqL K H a (ns.map V.int) → HOk P w H s₁.heap → (∀ b, b ≠ a → H b = none) → (H a = none ∨ K.lookup a = none) →
      codeAny (model P w) callerA (.call (.ref fa) ⟨[.ref a], []⟩) (Passed s₁) s₁ := by
    intro H hO hS ok Hn hK
    have up : ∀ {b : Addr} {o : Obj}, H b = none → s₁.heap.get? b = some o → (hidT s₁.heap H).get? b = some o := fun q e => hidT_get e q
    have ns' : ∀ {b : Addr} {m : Str → Option Value}, s₁.heap.Ns b m → (hidT s₁.heap H).Ns b m := fun {b m} h => by
      obtain ⟨o, es, ep, e, d, r⟩ := h
      refine ⟨o, es, ep, up (Hn b fun q => ?_) e, d, r⟩
      subst q
      rw [ha] at e
      cases e
      exact nomatch d
    have kin : K.In (hidT s₁.heap H) := fun b o e => by
      refine up ?_ (W.kin b o e)
      by_cases q : b = a
      · rcases hK with z | z
        · rw [q]
          exact z
        · rw [q, z] at e
          cases e
      · exact Hn b q
    have M : Mod K mg (hidT s₁.heap H) := ⟨kin, ns' W.mod, ⟨mb, ns' W.std, W.boot⟩, W.free.elim fun mc z => ⟨mc, ns' z.1, z.2⟩⟩
    have e0 : Env0 P w K mg (hidT s₁.heap H) callerA [] s₁ H := ⟨rfl, M, fun b o e => of_hidT e, Nat.le_of_eq (hidT_size _ _), trivial, fun b z => absurd (show b ∈ ([] : List Addr) from z) (by simp), ok, .of_eq W.none⟩
    refine codeAny_mono (F _ kin (ns' W.mod) s₁ H _ [.ref a] [.ref a] _ _ e0 (hbind s₁ (.ref a)) (.cons rfl .nil) (hsp H hO hS)) fun r s' h => ?_
    cases r with
    | error e => exact False.elim h
    | ok fl =>
      cases fl with
      | ret u =>
        obtain ⟨v, H', os, bare, un, ok', r', q⟩ := h
        obtain rfl : v = .bl true := q
        cases r'
        refine ⟨rfl, OldK.of_keep ?_, os, bare⟩
        intro b o e
        obtain z | ⟨ob, xs, z⟩ := hO b
        · exact un.keep b o e z (fun y => absurd (show b ∈ ([] : List Addr) from y) (by simp)) (by simp)
        · have z1 := (ok _ _ z).1
          have z2 := (ok' _ _ (un.frzs _ _ _ z)).1
          rw [e] at z1
          cases z1
          exact z2
      | next => exact False.elim h
      | brk => exact False.elim h
      | cont => exact False.elim h
  cases hk : K.lookup a with
  | none =>
    refine core (fun b => if b = a then some (.frz { cls := .type "list", data := .seq vs.toArray } (.lst (ns.map V.int))) else none) (fun b => ?_) (.inl (.inr ⟨_, if_pos rfl⟩)) (fun b o e => ?_) (fun b e => if_neg e) (.inr hk)
    · by_cases q : b = a
      · exact .inr ⟨_, _, if_pos q⟩
      · exact .inl (if_neg q)
    · by_cases q : b = a
      · have e' := (if_pos q).symm.trans e
        cases e'
        subst q
        have fit : (ns.map V.int).length ≤ sizeLine := (List.length_map _).symm ▸ hl
        exact ⟨ha, fit, vs, _, rv, ha⟩
      · have e' := (if_neg q).symm.trans e
        cases e'
  | some o =>
    have e := W.kin a o hk
    rw [ha] at e
    cases e
    refine core (fun _ => none) (fun _ => .inl rfl) (.inr ⟨_, vs.toArray, _, hk, rfl, rfl, rfl, ?_, by simpa using rv⟩) (fun b u z => ?_) (fun b _ => rfl) (.inl rfl)
    · simpa [hi.length] using hl
    · have z' : (none : Option HO) = some u := z
      cases z'
/-- the end: the law's promise, kept where it is called, closes the walk -/
theorem walk_kept {l : PySem.W.OpenLaw} {q : Program} {loose : List Str} {XP : (Str → Option Value) → Heap → Prop} {YP : World → Heap → Prop} {d : DefRec} {K : Params → PySem.W.Frag} {sp : PySem.W.Frag → Sp} {x : Str}
    (hn : l.most = some 63) (hdf : d.params.defaults = []) (hY : ∀ (w : World) (h : Heap), YP w h → (K w.params).In h)
    (F : ∀ (w : World) (mg : Str → Option Value) (at_ : Addr) (g : Heap), (K w.params).In g → g.Ns mainGlobals mg → mg d.name = some (.ref at_) →
      ∃ fd : FuncData, (∀ (s : Shared) (u : Value), BindsTo s fd ⟨[u], []⟩ [(x, u)]) ∧ ∀ base : Heap, (K w.params).In base → base.Ns mainGlobals mg → Kept l.prog w (K w.params) mg base at_ fd [x] (sp (K w.params)))
    (hsp : ∀ (K : PySem.W.Frag) (H : Hp) (a : Addr) (ns : List Int), ns.length ≤ 63 → SqL K H a (ns.map V.int) → sp K [.ref a] H (fun v _ => v = .bl true) fun _ _ _ => False) :
    PySem.W.WalkO q loose XP YP l.row.toRowW d [] (fun f vs => PySem.call f vs) := by
  refine Att.attach_call hn hdf ?_
  intro w _ _ mg _ fa _ _ _ _ a _ ns G Y _ _ _ hmg hobj hints hlen hg
  obtain ⟨fd, hb, hF⟩ := F w mg fa _ (hY w _ Y) G.T.g hmg
  exact law_kept ⟨hY w _ Y, G.T.g, G.T.b, G.T.builtins, G.T.nolimit, hg⟩ hobj hints (Nat.le_trans hlen (by decide)) hF hb fun H _ hS => hsp _ H a ns hlen hS
end DR
namespace DR
open PySem PySem.Spec PyProof.Rows L2
/-! ### heaps -/
theorem same_new {H : Hp} {p : Addr} {o : HO} (h : H p = none) : Same H (upd H p o) := fun b u e => by
  rw [upd_ne (ne_of_none e h)]
  exact e
/-- what H does not know may change -/
theorem same_mut {H H' : Hp} {p : Addr} {o : HO} (s : Same H H') (h : H p = none) : Same H (upd H' p o) := fun b u e => by
  rw [upd_ne (ne_of_none e h)]
  exact s b u e
theorem same_t {K : PySem.W.Frag} {H H' : Hp} {a : Addr} {xs : List V} (e : Same H H') (h : SqT K H a xs) : SqT K H' a xs := by
  match h with
  | .inl (.inl z) => exact .inl (.inl (e _ _ z))
  | .inl (.inr ⟨u, z⟩) => exact .inl (.inr ⟨u, e _ _ z⟩)
  | .inr z => exact .inr z
theorem same_l {K : PySem.W.Frag} {H H' : Hp} {a : Addr} {xs : List V} (e : Same H H') (h : SqL K H a xs) : SqL K H' a xs := e.seq h
/-- all but what stands at p stays -/
def Kp (p : Addr) (H H' : Hp) : Prop := ∀ b o, b ≠ p → H b = some o → H' b = some o
theorem Kp.refl (p : Addr) (H : Hp) : Kp p H H := fun _ _ _ e => e
theorem Kp.trans {p : Addr} {H H1 H2 : Hp} (a : Kp p H H1) (b : Kp p H1 H2) : Kp p H H2 := fun c o n e => b c o n (a c o n e)
theorem Same.kp {p : Addr} {H H' : Hp} (s : Same H H') : Kp p H H' := fun b o _ e => s b o e
theorem Kp.upd {p : Addr} {H H' : Hp} {o : HO} (k : Kp p H H') : Kp p H (upd H' p o) := fun b u n e => by
  rw [upd_ne n]
  exact k b u n e
/-- tuples (and what is locked) stay: so every tuple of tuples and numbers does -/
structure Tp (H H' : Hp) : Prop where
  tup : ∀ b xs, H b = some (.tup xs) → H' b = some (.tup xs)
  frz : ∀ b o u, H b = some (.frz o u) → H' b = some (.frz o u)
theorem Same.tp {H H' : Hp} (s : Same H H') : Tp H H' := ⟨fun b xs e => s b _ e, fun b o u e => s b _ e⟩
theorem Tp.refl (H : Hp) : Tp H H := ⟨fun _ _ e => e, fun _ _ _ e => e⟩
theorem Tp.trans {H H1 H2 : Hp} (a : Tp H H1) (b : Tp H1 H2) : Tp H H2 := ⟨fun c xs e => b.tup c xs (a.tup c xs e), fun c o u e => b.frz c o u (a.frz c o u e)⟩
theorem Kp.tp {p : Addr} {H H' : Hp} {kvs : List (Key × V)} (k : Kp p H H') (h : H p = some (.dK kvs)) : Tp H H' :=
  ⟨fun b xs e => k b _ (ne_of e h (by intro z; cases z)) e, fun b o u e => k b _ (ne_of e h (by intro z; cases z)) e⟩
theorem tp_t {K : PySem.W.Frag} {H H' : Hp} {a : Addr} {xs : List V} (e : Tp H H') (h : SqT K H a xs) : SqT K H' a xs := by
  rcases h with (h | ⟨o, h⟩) | h
  · exact .inl (.inl (e.tup _ _ h))
  · exact .inl (.inr ⟨o, e.frz _ _ _ h⟩)
  · exact .inr h
/-- a list, a dict changes or a new thing comes -/
theorem tp_lst {H : Hp} {p : Addr} {xs : List V} {o : HO} (h : H p = some (.lst xs)) : Tp H (upd H p o) :=
  ⟨fun b ys e => by rw [upd_ne (ne_of e h (by intro z; cases z))]; exact e, fun b u v e => by rw [upd_ne (ne_of e h (by intro z; cases z))]; exact e⟩
theorem tp_dK {H : Hp} {p : Addr} {xs : List (Key × V)} {o : HO} (h : H p = some (.dK xs)) : Tp H (upd H p o) :=
  ⟨fun b ys e => by rw [upd_ne (ne_of e h (by intro z; cases z))]; exact e, fun b u v e => by rw [upd_ne (ne_of e h (by intro z; cases z))]; exact e⟩
theorem tp_new {H : Hp} {p : Addr} {o : HO} (h : H p = none) : Tp H (upd H p o) := Same.tp (same_new h)
/-! ### polynomials: tuples (or lists) of pairs of ints -/
def IsPr (K : PySem.W.Frag) (H : Hp) (x : V) (t : Int × Int) : Prop := ∃ a, x = V.ref a ∧ SqT K H a [.int t.1, .int t.2]
abbrev Prs (K : PySem.W.Frag) (H : Hp) : List V → Pol → Prop := Paired (IsPr K H)
def TPol (K : PySem.W.Frag) (H : Hp) (v : V) (f : Pol) : Prop := ∃ a xs, v = .ref a ∧ SqT K H a xs ∧ Prs K H xs f
def LPol (K : PySem.W.Frag) (H : Hp) (v : V) (f : Pol) : Prop := ∃ a xs, v = .ref a ∧ SqL K H a xs ∧ Prs K H xs f
section
variable {K : PySem.W.Frag} {H H' : Hp} {v x : V} {xs ys : List V} {f g : Pol} {t : Int × Int}
theorem IsPr.tp (e : Tp H H') (h : IsPr K H x t) : IsPr K H' x t := h.elim fun a z => ⟨a, z.1, tp_t e z.2⟩
theorem Prs.tp (e : Tp H H') : ∀ {xs : List V} {f : Pol}, Prs K H xs f → Prs K H' xs f
  | _, _, .nil => .nil
  | _, _, .cons r q => .cons (r.tp e) (Prs.tp e q)
theorem TPol.tp (e : Tp H H') (h : TPol K H v f) : TPol K H' v f := by
  obtain ⟨a, xs, rfl, hs, hp⟩ := h
  exact ⟨a, xs, rfl, tp_t e hs, Prs.tp e hp⟩
theorem LPol.same (e : Same H H') (h : LPol K H v f) : LPol K H' v f := by
  obtain ⟨a, xs, rfl, hs, hp⟩ := h
  exact ⟨a, xs, rfl, e.seq hs, Prs.tp (Same.tp e) hp⟩
theorem Prs.snoc : ∀ {xs : List V} {f : Pol}, Prs K H xs f → IsPr K H x t → Prs K H (xs ++ [x]) (f ++ [t])
  | _, _, .nil, h => .cons h .nil
  | _, _, .cons r q, h => .cons r (Prs.snoc q h)
theorem Prs.app : ∀ {xs : List V} {f : Pol}, Prs K H xs f → Prs K H ys g → Prs K H (xs ++ ys) (f ++ g)
  | _, _, .nil, h => h
  | _, _, .cons r q, h => .cons r (Prs.app q h)
theorem Prs.len (h : Prs K H xs f) : xs.length = f.length := Paired.length h
theorem Prs.get : ∀ {xs : List V} {f : Pol} {i : Nat} {x : V}, Prs K H xs f → xs[i]? = some x → ∃ t, f[i]? = some t ∧ IsPr K H x t
  | _, _, _, _, .nil, e => by simp at e
  | _, _, 0, _, .cons r _, e => by
    simp at e
    subst e
    exact ⟨_, rfl, r⟩
  | _, _, i + 1, x, .cons _ q, e => by
    obtain ⟨t, h1, h2⟩ := Prs.get (i := i) (x := x) q (by simpa using e)
    exact ⟨t, by simpa using h1, h2⟩
theorem isPr_new {p : Addr} {t : Int × Int} : IsPr K (upd H p (.tup [.int t.1, .int t.2])) (.ref p) t := ⟨p, rfl, SqT.of upd_same⟩
/-- as data -/
def pr (t : Int × Int) : PyData := .tuple [.int t.1, .int t.2]
def pd (f : Pol) : PyData := .tuple (f.map pr)
theorem IsPr.dp (h : IsPr K H x t) : Dp K H x (pr t) := by
  obtain ⟨a, rfl, hs⟩ := h
  exact .tup hs (.cons (.int _) (.cons (.int _) .nil))
theorem Prs.dp : ∀ {xs : List V} {f : Pol}, Prs K H xs f → DpAll K H xs (f.map pr)
  | _, _, .nil => .nil
  | _, _, .cons r q => .cons r.dp (Prs.dp q)
theorem TPol.dp (h : TPol K H v f) : Dp K H v (pd f) := by
  obtain ⟨a, xs, rfl, hs, hp⟩ := h
  exact .tup hs hp.dp
end
/-! ### how they are shown -/
theorem int_shows {i : Int} (h : i.natAbs < 10 ^ 100) : (PyData.int i).showable = true ∧ ((PyData.int i).shown).length ≤ 101 := by
  refine ⟨decide_eq_true (log2_small (Nat.lt_of_lt_of_le h (by decide +kernel))), ?_⟩
  have e := int_text_length_le10 (k := 100) (by decide) h
  show (Str.ofString (toString i)).length ≤ 101
  rw [PySem.ofString_length]
  exact e
theorem pr_shows {t : Int × Int} (h1 : t.1.natAbs < 10 ^ 100) (h2 : t.2.natAbs < 10 ^ 100) : (pr t).showable = true ∧ (pr t).shown.length ≤ 209 := by
  obtain ⟨a1, a2⟩ := int_shows h1
  obtain ⟨b1, b2⟩ := int_shows h2
  refine ⟨?_, ?_⟩
  · show ((PyData.int t.1).showable && ((PyData.int t.2).showable && true)) = true
    rw [a1, b1]
    rfl
  · show (tupleText [(PyData.int t.1).shown, (PyData.int t.2).shown]).length ≤ 209
    have := tupleText_len_le [(PyData.int t.1).shown, (PyData.int t.2).shown]
    simp only [List.map_cons, List.map_nil, List.sum_cons, List.sum_nil, List.length_cons, List.length_nil] at this
    omega
/-- small enough to be shown -/
structure Sm (f : Pol) : Prop where
  len : f.length ≤ 50000
  abs : ∀ t ∈ f, t.1.natAbs < 10 ^ 100 ∧ t.2.natAbs < 10 ^ 100
theorem prs_shows : ∀ (f : Pol), (∀ t ∈ f, t.1.natAbs < 10 ^ 100 ∧ t.2.natAbs < 10 ^ 100) → PyData.showableAll (f.map pr) = true ∧ PyData.hasDictAll (f.map pr) = false ∧ PyData.depthAll (f.map pr) ≤ 1 ∧ ((PyData.shownAll (f.map pr)).map (·.length)).sum ≤ 209 * f.length ∧ (PyData.shownAll (f.map pr)).length = f.length
  | [], _ => ⟨rfl, rfl, Nat.zero_le _, Nat.zero_le _, rfl⟩
  | t :: r, h => by
    obtain ⟨a1, a2, a3, a4, a5⟩ := prs_shows r fun u hu => h u (List.mem_cons_of_mem _ hu)
    obtain ⟨b1, b2⟩ := pr_shows (h t List.mem_cons_self).1 (h t List.mem_cons_self).2
    refine ⟨?_, ?_, ?_, ?_, ?_⟩
    · show ((pr t).showable && PyData.showableAll (r.map pr)) = true
      rw [a1, b1]
      rfl
    · show ((pr t).hasDict || PyData.hasDictAll (r.map pr)) = false
      rw [a2]
      rfl
    · show max (pr t).depth (PyData.depthAll (r.map pr)) ≤ 1
      have : (pr t).depth = 1 := rfl
      omega
    · show ((pr t).shown.length :: ((PyData.shownAll (r.map pr)).map (·.length))).sum ≤ 209 * (r.length + 1)
      rw [List.sum_cons]
      omega
    · show (PyData.shownAll (r.map pr)).length + 1 = r.length + 1
      rw [a5]
theorem pd_shows {f : Pol} (h : Sm f) : (pd f).showable = true ∧ (pd f).hasDict = false ∧ (pd f).depth ≤ 2 ∧ (pd f).shown.length ≤ 211 * f.length + 3 := by
  obtain ⟨a1, a2, a3, a4, a5⟩ := prs_shows f h.abs
  refine ⟨a1, a2, ?_, ?_⟩
  · show PyData.depthAll (f.map pr) + 1 ≤ 2
    omega
  · show (tupleText (PyData.shownAll (f.map pr))).length ≤ _
    have := tupleText_len_le (PyData.shownAll (f.map pr))
    rw [a5] at this
    omega
/-- what repr asks -/
structure Shows (K : PySem.W.Frag) (H : Hp) (v : V) (d : PyData) : Prop where
  ref : ∃ a, v = .ref a
  dp : Dp K H v d
  s1 : d.showable = true
  s2 : d.hasDict = false
  s3 : d.depth ≤ 64
  s4 : d.shown.length ≤ sizeLine
theorem TPol.shows {K : PySem.W.Frag} {H : Hp} {v : V} {f : Pol} (h : TPol K H v f) (s : Sm f) : Shows K H v (pd f) := by
  obtain ⟨a1, a2, a3, a4⟩ := pd_shows s
  have := s.len
  refine ⟨h.elim fun a z => ⟨a, z.elim fun _ y => y.1⟩, h.dp, a1, a2, by omega, ?_⟩
  rw [sizeLine_eq]
  omega
theorem pr_lay (t : Int × Int) : (pr t).canLay0 = true := rfl
theorem prs_lay : ∀ f : Pol, PyData.canLayAll0 (f.map pr) = true ∧ PyData.depthAll (f.map pr) ≤ 1
  | [] => ⟨rfl, Nat.zero_le _⟩
  | t :: r => by
    obtain ⟨a, b⟩ := prs_lay r
    refine ⟨?_, ?_⟩
    · show ((pr t).canLay0 && PyData.canLayAll0 (r.map pr)) = true
      rw [a]
      rfl
    · show max (pr t).depth (PyData.depthAll (r.map pr)) ≤ 1
      have : (pr t).depth = 1 := rfl
      omega
theorem pd_shaped (f : Pol) : SeqAt.shaped (pd f) = true := by
  obtain ⟨a, b⟩ := prs_lay f
  show (PyData.canLayAll0 (f.map pr) && decide (PyData.depthAll (f.map pr) + 1 ≤ 64)) = true
  rw [a, decide_eq_true (by omega)]
  rfl
/-! ### dicts of ints -/
def kvOf (m : Pol) : List (Key × V) := m.map fun t => (Sum.inl t.1, V.int t.2)
theorem kv_keys (m : Pol) : (kvOf m).map (·.1) = (m.map (·.1)).map Sum.inl := by
  unfold kvOf
  rw [List.map_map, List.map_map]
  rfl
theorem kv_val : ∀ (m : Pol) (e : Int), (m.map (·.1)).Nodup → valV (kvOf m) (Sum.inl e) = if e ∈ m.map (·.1) then some (.int (cf m e)) else none
  | [], e, _ => by simp [kvOf, valV_nil]
  | t :: r, e, h => by
    have n := List.nodup_cons.mp (show (t.1 :: r.map (·.1)).Nodup from h)
    show valV ((Sum.inl t.1, V.int t.2) :: kvOf r) (Sum.inl e) = _
    by_cases q : t.1 = e
    · rw [valV_pos (by rw [q])]
      rw [if_pos (by rw [← q]; exact List.mem_cons_self), cf_cons, if_pos q, cf_out (f := r) (e := e) (by rw [← q]; exact n.1)]
      show some (V.int t.2) = some (V.int (t.2 + 0))
      rw [Int.add_zero]
    · rw [valV_neg (fun z => q (Sum.inl.inj z)), kv_val r e n.2, cf_cons, if_neg q, Int.zero_add]
      have : e ∈ (t :: r).map (·.1) ↔ e ∈ r.map (·.1) := by
        rw [List.map_cons, List.mem_cons]
        exact ⟨fun z => z.elim (fun y => absurd y.symm q) id, .inr⟩
      by_cases z : e ∈ r.map (·.1)
      · rw [if_pos z, if_pos (this.mpr z)]
      · rw [if_neg z, if_neg (fun y => z (this.mp y))]
theorem kv_getD (m : Pol) (e : Int) (h : (m.map (·.1)).Nodup) : (valV (kvOf m) (Sum.inl e)).getD (.int 0) = .int (cf m e) := by
  rw [kv_val m e h]
  by_cases z : e ∈ m.map (·.1)
  · rw [if_pos z]
    rfl
  · rw [if_neg z, cf_out z]
    rfl
theorem kv_has {m : Pol} {e : Int} (h : (m.map (·.1)).Nodup) (z : e ∈ m.map (·.1)) : valV (kvOf m) (Sum.inl e) = some (.int (cf m e)) := by
  rw [kv_val m e h, if_pos z]
theorem put_new : ∀ {m : Pol} {e v : Int}, e ∉ m.map (·.1) → put m e v = m ++ [(e, v)]
  | [], _, _, _ => rfl
  | t :: r, e, v, h => by
    have h1 : t.1 ≠ e := fun z => h (by rw [← z]; exact List.mem_cons_self)
    unfold put
    rw [if_neg h1, put_new fun z => h (List.mem_cons_of_mem _ z)]
    rfl
theorem put_old : ∀ {m : Pol} {e v : Int}, (m.map (·.1)).Nodup → e ∈ m.map (·.1) → put m e v = m.map fun t => if t.1 = e then (t.1, v) else t
  | [], _, _, _, h => absurd h List.not_mem_nil
  | t :: r, e, v, n, h => by
    have nn := List.nodup_cons.mp (show (t.1 :: r.map (·.1)).Nodup from n)
    unfold put
    by_cases q : t.1 = e
    · rw [if_pos q, List.map_cons, if_pos q, q]
      congr 1
      have : ∀ u ∈ r, (if u.1 = e then (u.1, v) else u) = id u := fun u hu => by
        rw [if_neg]
        · rfl
        · intro z
          exact nn.1 (by rw [q, ← z]; exact List.mem_map_of_mem hu)
      rw [List.map_congr_left this, List.map_id]
    · rw [if_neg q, List.map_cons, if_neg q, put_old nn.2]
      rcases List.mem_cons.mp (show e ∈ t.1 :: r.map (·.1) from h) with z | z
      · exact absurd z.symm q
      · exact z
theorem kv_put {m : Pol} {e v : Int} (n : (m.map (·.1)).Nodup) : putK (kvOf m) (Sum.inl e : Key) (.int v) = kvOf (put m e v) := by
  by_cases z : e ∈ m.map (·.1)
  · rw [put_old n z]
    unfold putK
    rw [valV_any, kv_has n z, if_pos (by rfl)]
    unfold kvOf
    rw [List.map_map, List.map_map]
    refine List.map_congr_left fun t _ => ?_
    show (if (Sum.inl t.1 : Key) = Sum.inl e then ((Sum.inl t.1 : Key), V.int v) else (Sum.inl t.1, V.int t.2)) = (Sum.inl (if t.1 = e then (t.1, v) else t).1, V.int (if t.1 = e then (t.1, v) else t).2)
    by_cases q : t.1 = e
    · rw [if_pos q, if_pos (by rw [q])]
    · rw [if_neg q, if_neg (fun y => q (Sum.inl.inj y))]
  · rw [putK_new _ (by rw [kv_val m e n, if_neg z]), put_new z]
    unfold kvOf
    rw [List.map_append]
    rfl
theorem kv_len (m : Pol) : (kvOf m).length = m.length := by
  unfold kvOf
  rw [List.length_map]
theorem sl_of {n : Nat} (h : n ≤ 1000000) : n ≤ sizeLine := by
  rw [sizeLine_eq]
  omega
theorem sl_lt {n : Nat} (h : n ≤ 1000000) : n < sizeLine := by
  rw [sizeLine_eq]
  omega
/-! ### a list of pairs that a comprehension, or a loop, makes -/
structure Grow (K : PySem.W.Frag) (H0 : Hp) (D : Addr) (f : Pol) (H : Hp) : Prop where
  same : Same H0 H
  ex : ∃ xs, H D = some (.lst xs) ∧ Prs K H xs f
section
variable {K : PySem.W.Frag} {H0 H : Hp} {D q : Addr} {f : Pol}
theorem Grow.start (n : H0 D = none) : Grow K H0 D [] (upd H0 D (.lst [])) := ⟨same_new n, [], upd_same, .nil⟩
theorem Grow.step (n : H0 D = none) (g : Grow K H0 D f H) (hq : H q = none) (e c : Int) (hl : f.length < 1000000) :
    ∃ acc, upd H q (.tup [.int e, .int c]) D = some (.lst acc) ∧ acc.length < sizeLine ∧ Grow K H0 D (f ++ [(e, c)]) (upd (upd H q (.tup [.int e, .int c])) D (.lst (acc ++ [.ref q]))) := by
  obtain ⟨s, xs, hD, hP⟩ := g
  have nDq : D ≠ q := ne_of_none hD hq
  have h1 : upd H q (.tup [.int e, .int c]) D = some (.lst xs) := by
    rw [upd_ne nDq]
    exact hD
  have t1 : Tp H (upd H q (.tup [.int e, .int c])) := tp_new hq
  have t2 : Tp (upd H q (.tup [.int e, .int c])) (upd (upd H q (.tup [.int e, .int c])) D (.lst (xs ++ [.ref q]))) := tp_lst h1
  refine ⟨xs, h1, sl_lt (by rw [hP.len]; omega), same_mut (s.trans (same_new hq)) n, _, upd_same, Prs.snoc (Prs.tp (t1.trans t2) hP) (IsPr.tp t2 ?_)⟩
  exact isPr_new (t := (e, c))
end
theorem ints_get {ys : List Int} {i : Nat} {x : V} (h : (ys.map V.int)[i]? = some x) : ∃ e, ys[i]? = some e ∧ x = .int e := by
  rw [List.getElem?_map] at h
  cases q : ys[i]? with
  | none =>
    rw [q] at h
    cases h
  | some e =>
    rw [q] at h
    exact ⟨e, rfl, (Option.some.inj h).symm⟩
theorem take_snoc {α : Type} {ys : List α} {i : Nat} {e : α} (h : ys[i]? = some e) : ys.take (i + 1) = ys.take i ++ [e] := by
  rw [List.take_add_one, h]
  rfl
theorem dget_int {H : Hp} {d : Addr} {m : Pol} {e : Int} (h : H d = some (.dK (kvOf m))) (n : (m.map (·.1)).Nodup) (z : e ∈ m.map (·.1)) : DGet H d (.int e) (some (.int (cf m e))) := by
  have := DGet.k (k := (Sum.inl e : Key)) h
  rw [kv_has n z] at this
  exact this
theorem dget_any {H : Hp} {d : Addr} {m : Pol} (e : Int) (h : H d = some (.dK (kvOf m))) : DGet H d (.int e) (valV (kvOf m) (Sum.inl e)) := DGet.k (k := (Sum.inl e : Key)) h
theorem dput_int {H : Hp} {d : Addr} {m : Pol} (e v : Int) (h : H d = some (.dK (kvOf m))) (n : (m.map (·.1)).Nodup) (hl : m.length ≤ 1000000) : DPut H d (.int e) (.int v) (upd H d (.dK (kvOf (put m e v)))) := by
  have := DPut.k (k := (Sum.inl e : Key)) (v := .int v) h (by rw [kv_len]; exact sl_lt hl)
  rw [kv_put n] at this
  exact this
/-! ### a def of the text by its name, and its call -/
structure Cal (P : Program) (w : World) (K : PySem.W.Frag) (mg : Str → Option Value) (base : Heap) (k : Nat) (x : Str) (sp : Sp) : Prop where
  ex : ∃ (f : Addr) (fd : FuncData) (ps : List Str), FnOk P w K mg base CX0 k f fd ps sp ∧ mg x = some (.ref f) ∧ PySem.W.keepIn K (.ref f) = true ∧ Binds K fd ps []
theorem pe_c {X : Cx} {k j : Nat} {x : Str} {sp : Sp} {p pos : Pos} {e : Expr} {es : List Expr} {t : TA} (c : Cal X.prog X.w X.K X.mg X.base k x sp) (hr : Room j X.A) (hk : k ≤ j) (hg : Gl X x) (ha : PA X (e :: es) t)
    (h1 : (x == ("__debug__" : Str)) = false := by decide) (h2 : starEach (e :: es) X.env = (false, eval e X.env) :: starEach es X.env := by rfl) (h3 : (backTo pos (starEach es X.env)).any (·.1) = false := by rfl) :
    PE X (.Call (.Name x p) (e :: es) [] pos) (tCall sp [] E0 t) := by
  obtain ⟨f, fd, ps, F, hm, kp, b⟩ := c.ex
  exact pe_call F (hr.mono hk) hg hm kp b .nil pass0 ha h1 h2 h3
/-! ### comprehensions that make pairs -/
section
variable {K : PySem.W.Frag} {a : Addr} {xs : List V} {f : Pol} {σ : L2.St} {H : Hp} {vs : List Nat} {n i j : Nat} {te : TE} {Q : VK}
/-- [(.., ..) for x, y in a tuple of pairs] -/
theorem lcT (G : Int × Int → Int × Int) (hv : σ[n]? = some (some (.ref a))) (hs : SqT K H a xs) (hP : Prs K H xs f) (hl : f.length ≤ 1000000)
    (hw : ∀ x y, wipe (((wipe σ vs).set i (some x)).set j (some y)) vs = wipe σ vs)
    (he : ∀ t ∈ f, ∀ H2, Same H H2 → ∀ R : VK, (∀ q, H2 q = none → R (.ref q) (upd H2 q (.tup [.int (G t).1, .int (G t).2]))) → te (((wipe σ vs).set i (some (.int t.1))).set j (some (.int t.2))) H2 R)
    (k : ∀ D H2, H D = none → Grow K H D (f.map G) H2 → Q (.ref D) H2) : tLc (iTup K (tVar n)) (gTup K 2 (gCons (gName i) (gCons (gName j) gNil))) tYes te vs σ H Q := by
  refine ⟨_, hv, a, rfl, ⟨_, hs⟩, fun D nD => lc_tup (K := K) (a := a) (xs := xs) (fun m H2 => Grow K H D ((f.take m).map G) H2) (.start nD) (fun m H2 _ g => same_t g.same hs) ?_ ?_⟩
  · intro m x H2 hm g
    obtain ⟨t, ht, b, rfl, hb⟩ := hP.get hm
    refine ⟨b, _, rfl, same_t g.same hb, rfl, _, _, rfl, _, _, rfl, rfl, hw _ _, ?_⟩
    dsimp only [tYes]
    rw [if_pos rfl]
    refine (he t (List.mem_of_getElem? ht) H2 g.same _ fun q nq => ?_)
    rw [take_snoc ht, List.map_append]
    refine g.step nD nq (G t).1 (G t).2 ?_
    have : m < f.length := (List.getElem?_eq_some_iff.mp ht).1
    rw [List.length_map, List.length_take]
    omega
  · intro H2 g
    rw [hP.len, List.take_length] at g
    exact k D H2 nD g
/-- the same over a list of pairs -/
theorem lcL (G : Int × Int → Int × Int) (hv : σ[n]? = some (some (.ref a))) (hs : SqL K H a xs) (hP : Prs K H xs f) (hl : f.length ≤ 1000000)
    (hw : ∀ x y, wipe (((wipe σ vs).set i (some x)).set j (some y)) vs = wipe σ vs)
    (he : ∀ t ∈ f, ∀ H2, Same H H2 → ∀ R : VK, (∀ q, H2 q = none → R (.ref q) (upd H2 q (.tup [.int (G t).1, .int (G t).2]))) → te (((wipe σ vs).set i (some (.int t.1))).set j (some (.int t.2))) H2 R)
    (k : ∀ D H2, H D = none → Grow K H D (f.map G) H2 → Q (.ref D) H2) : tLc (iList K (tVar n)) (gTup K 2 (gCons (gName i) (gCons (gName j) gNil))) tYes te vs σ H Q := by
  refine ⟨_, hv, a, rfl, ⟨_, hs⟩, fun D nD => lc_list (K := K) (a := a) (xs := xs) (fun m H2 => Grow K H D ((f.take m).map G) H2) (.start nD) (fun m H2 _ g => same_l g.same hs) ?_ ?_⟩
  · intro m x H2 hm g
    obtain ⟨t, ht, b, rfl, hb⟩ := hP.get hm
    refine ⟨b, _, rfl, same_t g.same hb, rfl, _, _, rfl, _, _, rfl, rfl, hw _ _, ?_⟩
    dsimp only [tYes]
    rw [if_pos rfl]
    refine (he t (List.mem_of_getElem? ht) H2 g.same _ fun q nq => ?_)
    rw [take_snoc ht, List.map_append]
    refine g.step nD nq (G t).1 (G t).2 ?_
    have : m < f.length := (List.getElem?_eq_some_iff.mp ht).1
    rw [List.length_map, List.length_take]
    omega
  · intro H2 g
    rw [hP.len, List.take_length] at g
    exact k D H2 nD g
/-- [(.., ..) for k in range(n)] -/
theorem lcR (G : Nat → Int × Int) {c : Int} {tn : TE} (hv : ∀ R : VK, R (.int c) H → tn σ H R) (h0 : 0 ≤ c) (hl : c ≤ 1000000)
    (hw : ∀ x, wipe ((wipe σ vs).set i (some x)) vs = wipe σ vs)
    (he : ∀ m, m < c.toNat → ∀ H2, Same H H2 → ∀ R : VK, (∀ q, H2 q = none → R (.ref q) (upd H2 q (.tup [.int (G m).1, .int (G m).2]))) → te ((wipe σ vs).set i (some (.int (0 + (m : Int))))) H2 R)
    (k : ∀ D H2, H D = none → Grow K H D ((List.range c.toNat).map G) H2 → Q (.ref D) H2) : tLc (iRng1 (tCons tn tNil)) (gName i) tYes te vs σ H Q := by
  refine hv _ ⟨c, rfl, by omega, by omega, fun D nD => lc_range (lo := 0) (n := c.toNat) (fun m H2 => Grow K H D ((List.range m).map G) H2) (.start nD) ?_ fun H2 g => k D H2 nD g⟩
  intro m H2 hm g
  refine ⟨hw _, ?_⟩
  dsimp only [tYes]
  rw [if_pos rfl]
  refine (he m hm H2 g.same _ fun q nq => ?_)
  rw [List.range_succ, List.map_append]
  refine g.step nD nq (G m).1 (G m).2 ?_
  rw [List.length_map, List.length_range]
  omega
end
theorem Grow.lpol {K : PySem.W.Frag} {H0 H : Hp} {D : Addr} {f : Pol} (g : Grow K H0 D f H) : LPol K H (.ref D) f := by
  obtain ⟨xs, h1, h2⟩ := g.ex
  exact ⟨D, xs, rfl, SqL.of h1, h2⟩
/-- tuple(the list of pairs) -/
theorem rd_tuple {K : PySem.W.Frag} {H0 H : Hp} {D : Addr} {f : Pol} {Q : VK} (g : Grow K H0 D f H) (k : ∀ v H', Same H0 H' → TPol K H' v f → Q v H') :
    ∃ p ys, [V.ref D] = [V.ref p] ∧ ((SqL K H p ys ∧ ∀ l, H l = none → Q (.ref l) (upd H l (.tup ys))) ∨ (SqT K H p ys ∧ Q (.ref p) H)) := by
  obtain ⟨xs, h1, h2⟩ := g.ex
  exact ⟨D, xs, rfl, .inl ⟨SqL.of h1, fun l nl => k _ _ (g.same.trans (same_new nl)) ⟨l, xs, rfl, SqT.of upd_same, Prs.tp (tp_new nl) h2⟩⟩⟩
/-! ### a def as the top leaves it -/
structure Df (K : PySem.W.Frag) (mg : Str → Option Value) (x : Str) (st : Stmt) : Prop where
  ex : ∃ (f : Addr) (fd : FuncData), Fun K x x st f fd ∧ mg x = some (.ref f) ∧ PySem.W.keepIn K (.ref f) = true
theorem df_mk {K : PySem.W.Frag} {h : Heap} {mg : Str → Option Value} {x : Str} {st : Stmt} {f : Addr} {oc : Value} {od an : Option Addr} {osl : Array (Option Value)} {kV doc pm cdv ct : Value} (X : K.In h) (G : h.Ns mainGlobals mg)
    (a : PySem.W.nsIn K mainGlobals x = some (some (.ref f))) (l : K.lookup f = some ⟨oc, od, .func (PySem.W.fnOf x x (defArgs st) (defBody st) (defScope st) .none kV doc pm an cdv ct), osl⟩) (c : PySem.W.codeIn K cdv x = true) (k : PySem.W.keepIn K (.ref f) = true) : Df K mg x st :=
  ⟨f, _, fun_mk (st := st) l c k, PySem.W.mg_of X G a, k⟩
theorem cal_of {P : Program} {w : World} {K : PySem.W.Frag} {mg : Str → Option Value} {base : Heap} {k : Nat} {x : Str} {st : Stmt} {ps : List Str} {sp : Sp} (D : Df K mg x st)
    (b : ∀ (kV doc pm : Value) (an : Option Addr) (cdv ct : Value) (us : List Value), us.length = ps.length → bindArgs (PySem.W.fnOf x x (defArgs st) (defBody st) (defScope st) .none kV doc pm an cdv ct) ⟨us, []⟩ = pure (ps.zip us))
    (ok : ∀ f fd, Fun K x x st f fd → FnOk P w K mg base CX0 k f fd ps sp) : Cal P w K mg base k x sp := by
  obtain ⟨f, fd, F, hm, kp⟩ := D.ex
  exact ⟨f, fd, ps, ok f fd F, hm, kp, F.binds b⟩
/-- the law's own def -/
theorem law_of {l : PySem.W.OpenLaw} {w : World} {K : PySem.W.Frag} {mg : Str → Option Value} {fa : Addr} {x y : Str} {st : Stmt} {sp : Sp} (hfa : mg x = some (.ref fa)) (D : Df K mg x st)
    (b : ∀ (kV doc pm : Value) (an : Option Addr) (cdv ct : Value) (s : Shared) (v : Value), BindsTo s (PySem.W.fnOf x x (defArgs st) (defBody st) (defScope st) .none kV doc pm an cdv ct) ⟨[v], []⟩ [(y, v)])
    (ok : ∀ (base : Heap) f fd, Fun K x x st f fd → Kept l.prog w K mg base f fd [y] sp) :
    ∃ fd : FuncData, (∀ (s : Shared) (v : Value), BindsTo s fd ⟨[v], []⟩ [(y, v)]) ∧ ∀ base : Heap, K.In base → base.Ns mainGlobals mg → Kept l.prog w K mg base fa fd [y] sp := by
  obtain ⟨f, fd, F, hm, kp⟩ := D.ex
  cases hfa.symm.trans hm
  refine ⟨fd, ?_, fun base _ _ => ok base fa fd F⟩
  obtain ⟨_, _, kV, doc, pm, an, cdv, ct, _, rfl, _⟩ := F.ex
  exact b kV doc pm an cdv ct
theorem gName_app {i : Nat} {v : V} {σ : L2.St} {H : Hp} {Q : L2.St → Hp → Prop} : gName i v σ H Q = Q (σ.set i (some v)) H := rfl
end DR
namespace DR
open PySem PySem.Spec PyProof.Rows L2
/-! ### the pen that draws from the script -/
theorem n_cu : ¬ ((Sum.inr ("cells" : Str) : Key) = Sum.inr ("used" : Str)) := by decide +kernel
theorem n_cl : ¬ ((Sum.inr ("cells" : Str) : Key) = Sum.inr ("left" : Str)) := by decide +kernel
theorem n_ul : ¬ ((Sum.inr ("used" : Str) : Key) = Sum.inr ("left" : Str)) := by decide +kernel
theorem n_uc : ¬ ((Sum.inr ("used" : Str) : Key) = Sum.inr ("cells" : Str)) := by decide +kernel
theorem n_lc : ¬ ((Sum.inr ("left" : Str) : Key) = Sum.inr ("cells" : Str)) := by decide +kernel
theorem n_lu : ¬ ((Sum.inr ("left" : Str) : Key) = Sum.inr ("used" : Str)) := by decide +kernel
def penKv (c : Addr) (u l : Int) : List (Key × V) := [(Sum.inr ("cells" : Str), .ref c), (Sum.inr ("used" : Str), .int u), (Sum.inr ("left" : Str), .int l)]
section
variable (c : Addr) (u l x : Int)
theorem pen_cells : valV (penKv c u l) (Sum.inr ("cells" : Str) : Key) = some (.ref c) := valV_pos rfl
theorem pen_used : valV (penKv c u l) (Sum.inr ("used" : Str) : Key) = some (.int u) := by
  unfold penKv
  rw [valV_neg n_cu, valV_pos rfl]
theorem pen_left : valV (penKv c u l) (Sum.inr ("left" : Str) : Key) = some (.int l) := by
  unfold penKv
  rw [valV_neg n_cl, valV_neg n_ul, valV_pos rfl]
theorem pen_setU : putK (penKv c u l) (Sum.inr ("used" : Str) : Key) (.int x) = penKv c x l := by
  unfold putK
  rw [valV_any, pen_used, if_pos (by rfl)]
  unfold penKv
  rw [List.map_cons, List.map_cons, List.map_cons, List.map_nil, if_neg n_cu, if_pos rfl, if_neg n_lu]
theorem pen_setL : putK (penKv c u l) (Sum.inr ("left" : Str) : Key) (.int x) = penKv c u x := by
  unfold putK
  rw [valV_any, pen_left, if_pos (by rfl)]
  unfold penKv
  rw [List.map_cons, List.map_cons, List.map_cons, List.map_nil, if_neg n_cl, if_neg n_ul, if_pos rfl]
theorem pen_merge : mergeK [] (penKv c u l) = penKv c u l := by
  have e1 : putK ([] : List (Key × V)) (Sum.inr ("cells" : Str)) (.ref c) = [(Sum.inr ("cells" : Str), .ref c)] := putK_new _ valV_nil
  have e2 : putK ([(Sum.inr ("cells" : Str), .ref c)] : List (Key × V)) (Sum.inr ("used" : Str)) (.int u) = [(Sum.inr ("cells" : Str), .ref c), (Sum.inr ("used" : Str), .int u)] := putK_new _ (by rw [valV_neg n_cu]; exact valV_nil)
  have e3 : putK ([(Sum.inr ("cells" : Str), .ref c), (Sum.inr ("used" : Str), .int u)] : List (Key × V)) (Sum.inr ("left" : Str)) (.int l) = penKv c u l := putK_new _ (by rw [valV_neg n_cl, valV_neg n_ul]; exact valV_nil)
  show putK (putK (putK ([] : List (Key × V)) (Sum.inr ("cells" : Str)) (.ref c)) (Sum.inr ("used" : Str)) (.int u)) (Sum.inr ("left" : Str)) (.int l) = _
  rw [e1, e2, e3]
end
/-- a pen at p, its cells at c, that has drawn at most n numbers -/
structure PenAt (H : Hp) (p c : Addr) (n : Nat) : Prop where
  ex : ∃ (ns : List Int) (u l : Int), H p = some (.dK (penKv c u l)) ∧ H c = some (.lst (ns.map V.int)) ∧ 0 ≤ u ∧ u ≤ n
section
variable {H H' : Hp} {p c : Addr} {n m : Nat}
theorem PenAt.dict (h : PenAt H p c n) : ∃ kvs, H p = some (.dK kvs) := by
  obtain ⟨ns, u, l, h1, _⟩ := h.ex
  exact ⟨_, h1⟩
theorem PenAt.cells (h : PenAt H p c n) : ∃ xs, H c = some (.lst xs) := by
  obtain ⟨ns, u, l, _, h2, _⟩ := h.ex
  exact ⟨_, h2⟩
theorem PenAt.np {q : Addr} (h : PenAt H p c n) (hq : H q = none) : q ≠ p := (h.dict.elim fun _ e => ne_of_none e hq).symm
theorem PenAt.nc {q : Addr} (h : PenAt H p c n) (hq : H q = none) : q ≠ c := (h.cells.elim fun _ e => ne_of_none e hq).symm
theorem PenAt.mono (h : PenAt H p c n) (e : n ≤ m) : PenAt H p c m := by
  obtain ⟨ns, u, l, h1, h2, h3, h4⟩ := h.ex
  exact ⟨ns, u, l, h1, h2, h3, by omega⟩
theorem PenAt.same (h : PenAt H p c n) (s : Same H H') : PenAt H' p c n := by
  obtain ⟨ns, u, l, h1, h2, h3⟩ := h.ex
  exact ⟨ns, u, l, s _ _ h1, s _ _ h2, h3⟩
/-- another object changes -/
theorem PenAt.upd {q : Addr} {o : HO} (h : PenAt H p c n) (h1 : q ≠ p) (h2 : q ≠ c) : PenAt (upd H q o) p c n := by
  obtain ⟨ns, u, l, a1, a2, a3⟩ := h.ex
  exact ⟨ns, u, l, by rw [upd_ne h1.symm]; exact a1, by rw [upd_ne h2.symm]; exact a2, a3⟩
theorem PenAt.tp (h : PenAt H p c n) (k : Kp p H H') : Tp H H' := h.dict.elim fun _ e => k.tp e
end
end DR
namespace DR
open PySem PySem.Spec PyProof.Rows L2
/-! ### what the defs promise -/
/-- a polynomial of the law's: canonical, with at most so many terms, its exponents within reach -/
structure Drawn (q : Int) (g : Pol) (terms : Nat) (reach : Int) : Prop where
  nf : Nf q g (cf g)
  len : g.length ≤ terms
  abs : ∀ t ∈ g, t.1.natAbs ≤ reach.natAbs
def primes : List Int := [2, 3, 5, 7, 11, 13, 17, 19, 23, 29, 31, 37, 41, 43, 47, 53, 59, 61, 67, 71, 73, 79, 83, 89, 97]
theorem prime_rng : ∀ q ∈ primes, 2 ≤ q ∧ q ≤ 97 := by decide
def sp_from_sums (K : PySem.W.Frag) : Sp := fun vs H Q _ => ∃ (p : Int) (d : Addr) (m : Pol), vs = [.int p, .ref d] ∧ 0 < p ∧ H d = some (.dK (kvOf m)) ∧ (m.map (·.1)).Nodup ∧ m.length ≤ 1000000 ∧ ∀ v H' g, Same H H' → TPol K H' v g → Nf p g (cf m) → Q v H'
def sp_normalize (K : PySem.W.Frag) : Sp := fun vs H Q _ => ∃ (p : Int) (v : V) (ps : Pol), vs = [.int p, v] ∧ 0 < p ∧ (TPol K H v ps ∨ LPol K H v ps) ∧ ps.length ≤ 1000000 ∧ ∀ u H' g, Same H H' → TPol K H' u g → Nf p g (cf ps) → Q u H'
def sp_scale (K : PySem.W.Frag) : Sp := fun vs H Q _ => ∃ (p : Int) (v : V) (f : Pol) (c : Int), vs = [.int p, v, .int c] ∧ 0 < p ∧ TPol K H v f ∧ f.length ≤ 1000000 ∧ (∀ t ∈ f, -(2 ^ 64) < t.2 ∧ t.2 < 2 ^ 64) ∧ ∀ u H' g, Same H H' → TPol K H' u g → Nf p g (fun e => cf f e * c) → Q u H'
def sp_move (K : PySem.W.Frag) : Sp := fun vs H Q _ => ∃ (v : V) (f : Pol) (n : Int), vs = [v, .int n] ∧ TPol K H v f ∧ f.length ≤ 1000000 ∧ ∀ u H', Same H H' → TPol K H' u (moved n f) → Q u H'
def sp_geometric (K : PySem.W.Frag) : Sp := fun vs H Q _ => ∃ (p n s : Int), vs = [.int p, .int n, .int s] ∧ 0 < p ∧ 0 ≤ n ∧ n ≤ 1000000 ∧ ∀ u H' g, Same H H' → TPol K H' u g → Nf p g (cf (rounds n.toNat s)) → Q u H'
def sp_add (K : PySem.W.Frag) : Sp := fun vs H Q _ => ∃ (p : Int) (v1 v2 : V) (f g : Pol), vs = [.int p, v1, v2] ∧ 0 < p ∧ TPol K H v1 f ∧ TPol K H v2 g ∧ f.length + g.length ≤ 1000000 ∧ ∀ u H' r, Same H H' → TPol K H' u r → Nf p r (fun e => cf f e + cf g e) → Q u H'
def sp_subtract (K : PySem.W.Frag) : Sp := fun vs H Q _ => ∃ (p : Int) (v1 v2 : V) (f g : Pol), vs = [.int p, v1, v2] ∧ 0 < p ∧ TPol K H v1 f ∧ TPol K H v2 g ∧ f.length + g.length ≤ 1000000 ∧ (∀ t ∈ g, -(2 ^ 64) < t.2 ∧ t.2 < 2 ^ 64) ∧ ∀ u H' r, Same H H' → TPol K H' u r → Nf p r (fun e => cf f e - cf g e) → Q u H'
def sp_multiply (K : PySem.W.Frag) : Sp := fun vs H Q _ => ∃ (p : Int) (v1 v2 : V) (f g : Pol), vs = [.int p, v1, v2] ∧ 0 < p ∧ TPol K H v1 f ∧ TPol K H v2 g ∧ f.length * g.length ≤ 1000000 ∧ (∀ t ∈ f, -(2 ^ 64) < t.2 ∧ t.2 < 2 ^ 64) ∧ ∀ u H' r, Same H H' → TPol K H' u r → Nf p r (cf (prods f g)) → Q u H'
def sp__law_pen (K : PySem.W.Frag) : Sp := fun vs H Q _ => ∃ (a : Addr) (ns : List Int), vs = [.ref a] ∧ SqL K H a (ns.map V.int) ∧ ∀ p c H', H p = none → Same H H' → PenAt H' p c 0 → Q (.ref p) H'
def sp__law_draw : Sp := fun vs H Q _ => ∃ (p c : Addr) (many : Int) (n : Nat), vs = [.ref p, .int many] ∧ 0 < many ∧ many.natAbs < 2 ^ 400 ∧ PenAt H p c n ∧ n < 2 ^ 40 ∧ ∀ r H', 0 ≤ r → r < many → Kp p H H' → PenAt H' p c (n + 1) → Q (.int r) H'
def sp__law_pick : Sp := fun vs H Q _ => ∃ (p c o : Addr) (n : Nat) (xs : List V), vs = [.ref p, .ref o] ∧ PenAt H p c n ∧ n < 2 ^ 40 ∧ H o = some (.lst xs) ∧ 0 < xs.length ∧ xs.length ≤ 100000 ∧ ∀ v H', v ∈ xs → Kp p H H' → PenAt H' p c (n + 1) → Q v H'
def sp__law_prime : Sp := fun vs H Q _ => ∃ (p c : Addr) (n : Nat), vs = [.ref p] ∧ PenAt H p c n ∧ n + 2 < 2 ^ 40 ∧ ∀ q H', q ∈ primes → Kp p H H' → PenAt H' p c (n + 2) → Q (.int q) H'
def sp__law_integer : Sp := fun vs H Q _ => ∃ (p c : Addr) (most : Int) (n : Nat), vs = [.ref p, .int most] ∧ 0 ≤ most ∧ most.natAbs < 10 ^ 90 ∧ PenAt H p c n ∧ n < 2 ^ 40 ∧ ∀ r H', r.natAbs ≤ most.natAbs → Kp p H H' → PenAt H' p c (n + 1) → Q (.int r) H'
def sp__law_polynomial (K : PySem.W.Frag) : Sp := fun vs H Q _ => ∃ (p c : Addr) (q terms reach : Int) (n : Nat), vs = [.ref p, .int q, .int terms, .int reach] ∧ 2 ≤ q ∧ q ≤ 97 ∧ 0 ≤ terms ∧ terms ≤ 1000 ∧ 0 ≤ reach ∧ reach.natAbs < 10 ^ 90 ∧ PenAt H p c n ∧ n < 2 ^ 39 ∧
  ∀ v H' g, Kp p H H' → PenAt H' p c (n + 2 * terms.toNat + 1) → TPol K H' v g → Drawn q g terms.toNat reach → Q v H'
theorem mul_room {i j a b : Nat} (hi : i < a) (hj : j < b) (h : a * b ≤ 1000000) : i * b + j < 1000000 := by
  have h1 : (i + 1) * b ≤ a * b := Nat.mul_le_mul_right b hi
  rw [Nat.add_mul, Nat.one_mul] at h1
  omega
theorem neg_mod (a b c p : Int) (h : c = b * -1 % p) : (a + c) % p = (a - b) % p := by
  rw [h, Int.add_emod_emod]
  congr 1
  omega
theorem sm_nf {q : Int} {g : Pol} {F : Int → Int} {L : List Int} (h : Nf q g F) (hq : q ≤ 97) (z : ∀ e, e ∉ L → F e % q = 0) (hl : L.length ≤ 50000) (hb : ∀ e ∈ L, e.natAbs < 10 ^ 100) : Sm g := by
  refine ⟨Nat.le_trans (h.len z) hl, fun t ht => ⟨hb _ (h.sub z t ht), ?_⟩⟩
  have := h.rng t ht
  exact Nat.lt_of_le_of_lt (show t.2.natAbs ≤ 97 by omega) (by decide +kernel)
theorem sm_moved {g : Pol} {n : Int} {q : Int} (hl : g.length ≤ 50000) (hb : ∀ t ∈ g, t.1.natAbs < 10 ^ 95 ∧ 0 < t.2 ∧ t.2 ≤ 97) (hn : n.natAbs < 10 ^ 95) : Sm (moved n g) := by
  refine ⟨by unfold moved; rw [List.length_map]; exact hl, fun t ht => ?_⟩
  obtain ⟨u, hu, rfl⟩ := List.mem_map.mp (show t ∈ g.map fun t => (t.1 + n, t.2) from ht)
  have h1 := hb u hu
  refine ⟨?_, Nat.lt_of_le_of_lt (show u.2.natAbs ≤ 97 by omega) (by decide +kernel)⟩
  have e : 10 ^ 95 + 10 ^ 95 < 10 ^ 100 := by decide +kernel
  show (u.1 + n).natAbs < 10 ^ 100
  omega
theorem drawn_sm {q : Int} {g : Pol} {terms : Nat} {reach : Int} (d : Drawn q g terms reach) (hq : q ≤ 97) (ht : terms ≤ 50000) (hr : reach.natAbs < 10 ^ 90) : Sm g := by
  refine ⟨Nat.le_trans d.len ht, fun t h => ⟨?_, ?_⟩⟩
  · have e : 10 ^ 90 < 10 ^ 100 := by decide +kernel
    have := d.abs t h
    omega
  · have := d.nf.rng t h
    exact Nat.lt_of_le_of_lt (show t.2.natAbs ≤ 97 by omega) (by decide +kernel)
theorem mem_ints {v : V} {ns : List Int} {R : Int → Prop} (h : v ∈ ns.map V.int) (a : ∀ x ∈ ns, R x) : ∃ x, v = .int x ∧ R x := by
  obtain ⟨x, hx, rfl⟩ := List.mem_map.mp h
  exact ⟨x, rfl, a x hx⟩
def sp_law (K : PySem.W.Frag) : Sp := fun vs H Q _ => ∃ (a : Addr) (ns : List Int), vs = [.ref a] ∧ SqL K H a (ns.map V.int) ∧ ns.length ≤ 63 ∧ ∀ H', Q (.bl true) H'
/-! ### effects -/
def TEff (K : PySem.W.Frag) (H : Hp) (v : V) (f : Pol) (n : Int) : Prop := ∃ a x, v = .ref a ∧ SqT K H a [x, .int n] ∧ TPol K H x f
theorem TEff.tp {K : PySem.W.Frag} {H H' : Hp} {v : V} {f : Pol} {n : Int} (e : Tp H H') (h : TEff K H v f n) : TEff K H' v f n := by
  obtain ⟨a, x, rfl, hs, hx⟩ := h
  exact ⟨a, x, rfl, tp_t e hs, hx.tp e⟩
def ed (f : Pol) (n : Int) : PyData := .tuple [pd f, .int n]
theorem TEff.dp {K : PySem.W.Frag} {H : Hp} {v : V} {f : Pol} {n : Int} (h : TEff K H v f n) : Dp K H v (ed f n) := by
  obtain ⟨a, x, rfl, hs, hx⟩ := h
  exact .tup hs (.cons hx.dp (.cons (.int _) .nil))
theorem TEff.shows {K : PySem.W.Frag} {H : Hp} {v : V} {f : Pol} {n : Int} (h : TEff K H v f n) (s : Sm f) (hn : n.natAbs < 10 ^ 100) : Shows K H v (ed f n) := by
  obtain ⟨a1, a2, a3, a4⟩ := pd_shows s
  obtain ⟨b1, b2⟩ := int_shows hn
  have := s.len
  refine ⟨h.elim fun a z => z.elim fun _ y => ⟨a, y.1⟩, h.dp, ?_, ?_, ?_, ?_⟩
  · show ((pd f).showable && ((PyData.int n).showable && true)) = true
    rw [a1, b1]
    rfl
  · show ((pd f).hasDict || (false || false)) = false
    rw [a2]
    rfl
  · show max (pd f).depth (max 0 0) + 1 ≤ 64
    omega
  · show (tupleText [(pd f).shown, (PyData.int n).shown]).length ≤ sizeLine
    have e := tupleText_len_le [(pd f).shown, (PyData.int n).shown]
    simp only [List.map_cons, List.map_nil, List.sum_cons, List.sum_nil, List.length_cons, List.length_nil] at e
    rw [sizeLine_eq]
    omega
theorem ed_shaped (f : Pol) (n : Int) : SeqAt.shaped (ed f n) = true := by
  obtain ⟨a, b⟩ := prs_lay f
  show (((PyData.canLayAll0 (f.map pr)) && (true && true)) && decide (max (PyData.depthAll (f.map pr) + 1) (max 0 0) + 1 ≤ 64)) = true
  rw [a, decide_eq_true (by omega)]
  rfl
def sp_compose (K : PySem.W.Frag) : Sp := fun vs H Q _ => ∃ (p : Int) (v1 v2 : V) (f g : Pol) (m n : Int), vs = [.int p, v1, v2] ∧ 0 < p ∧ TEff K H v1 f m ∧ TEff K H v2 g n ∧ f.length + g.length ≤ 1000000 ∧ ∀ u H' r, Same H H' → TEff K H' u r (m + n) → Nf p r (fun e => cf f e + cf g (e - m)) → Q u H'
def sp_inverse (K : PySem.W.Frag) : Sp := fun vs H Q _ => ∃ (p : Int) (v : V) (f : Pol) (m : Int), vs = [.int p, v] ∧ 0 < p ∧ TEff K H v f m ∧ f.length ≤ 1000000 ∧ (∀ t ∈ f, -(2 ^ 64) < t.2 ∧ t.2 < 2 ^ 64) ∧ ∀ u H' r, Same H H' → TEff K H' u r (-m) → Nf p r (fun e => cf f (e + m) * -1) → Q u H'
def sp__law_effect (K : PySem.W.Frag) : Sp := fun vs H Q _ => ∃ (p c : Addr) (q terms reach : Int) (n : Nat), vs = [.ref p, .int q, .int terms, .int reach] ∧ 2 ≤ q ∧ q ≤ 97 ∧ 0 ≤ terms ∧ terms ≤ 1000 ∧ 0 ≤ reach ∧ reach.natAbs < 10 ^ 90 ∧ PenAt H p c n ∧ n < 2 ^ 38 ∧
  ∀ v H' g sh, Kp p H H' → PenAt H' p c (n + 2 * terms.toNat + 3) → TEff K H' v g sh → Drawn q g terms.toNat reach → sh.natAbs ≤ reach.natAbs → Q v H'
theorem atI3 {a b c : V} {r : Int} (h0 : 0 ≤ r) (h9 : r < 3) : atI [a, b, c] r = some a ∨ atI [a, b, c] r = some b ∨ atI [a, b, c] r = some c := by
  have : r = 0 ∨ r = 1 ∨ r = 2 := by omega
  rcases this with rfl | rfl | rfl
  · exact .inl rfl
  · exact .inr (.inl rfl)
  · exact .inr (.inr rfl)
theorem moved_len (n : Int) (f : Pol) : (moved n f).length = f.length := by
  unfold moved
  rw [List.length_map]
/-! ### a comprehension that draws -/
theorem lcPen {K : PySem.W.Frag} {p c : Addr} {σ : L2.St} {H : Hp} {vs : List Nat} {i : Nat} {te : TE} {Q : VK} (R : Hp → V → Prop) (stay : ∀ {H H' : Hp} {v : V}, Tp H H' → R H v → R H' v) (n : Nat) {z : Int} (hz : z = (n : Int)) (b cost : Nat) (hn : n ≤ 1000)
    (hw : ∀ x, wipe ((wipe σ vs).set i (some x)) vs = wipe σ vs) (pen : PenAt H p c b)
    (he : ∀ (m : Nat), m < n → ∀ H2, Kp p H H2 → PenAt H2 p c (b + cost * m) → ∀ S : VK, (∀ v H3, Kp p H2 H3 → PenAt H3 p c (b + cost * (m + 1)) → R H3 v → S v H3) → te ((wipe σ vs).set i (some (.int (0 + (m : Int))))) H2 S)
    (k : ∀ D xs H2, xs.length = n → H2 D = some (.lst xs) → (∀ v ∈ xs, R H2 v) → Kp p H H2 → PenAt H2 p c (b + cost * n) → Q (.ref D) H2) : tLc (iRng1 (tCons (tC (.int z)) tNil)) (gName i) tYes te vs σ H Q := by
  subst hz
  refine ⟨(n : Int), rfl, by omega, by omega, fun D nD => lc_range (lo := 0) (n := ((n : Int)).toNat) (fun m H2 => ∃ xs, H2 D = some (.lst xs) ∧ xs.length = m ∧ (∀ v ∈ xs, R H2 v) ∧ Kp p H H2 ∧ PenAt H2 p c (b + cost * m)) ⟨[], upd_same, rfl, fun v h => absurd h List.not_mem_nil, Same.kp (same_new nD), pen.same (same_new nD)⟩ ?_ ?_⟩
  · rintro m H2 hm ⟨xs, hD, hl, hR, kp, pen2⟩
    refine ⟨hw _, ?_⟩
    dsimp only [tYes]
    rw [if_pos rfl]
    refine he m (by omega) H2 kp pen2 _ fun v H3 k3 pen3 hv => ?_
    have npD := pen.np nD
    have ncD := pen.nc nD
    have hD3 : H3 D = some (.lst xs) := k3 _ _ npD hD
    refine ⟨xs, hD3, sl_lt (by omega), xs ++ [v], upd_same, by rw [List.length_append, hl]; rfl, fun w hw' => ?_, fun x o nx ex => ?_, pen3.upd npD ncD⟩
    · have t3 : Tp H3 (upd H3 D (.lst (xs ++ [v]))) := tp_lst hD3
      rcases List.mem_append.mp hw' with h | h
      · exact stay ((pen2.tp k3).trans t3) (hR w h)
      · have e : w = v := by simpa using h
        rw [e]
        exact stay t3 hv
    · rw [upd_ne (ne_of_none ex nD)]
      exact k3 _ _ nx (kp _ _ nx ex)
  · rintro H2 ⟨xs, hD, hl, hR, kp, pen2⟩
    exact k D xs H2 (by rw [hl]; omega) hD hR kp (pen2.mono (by rw [Int.toNat_natCast]; exact Nat.le_refl _))
theorem three {α : Type} {xs : List α} (h : xs.length = 3) : ∃ a b c, xs = [a, b, c] := by
  match xs, h with
  | [a, b, c], _ => exact ⟨a, b, c, rfl⟩
/-! ### comparisons of data -/
theorem iteE {A B : Prop} (r : Pol) (h : B) : if (!PyData.eqv (pd r) (pd r)) = true then A else B := by
  rw [SeqAt.eqv_refl _ (SeqAt.canLay_of_shaped (pd_shaped r))]
  exact iteF h
theorem iteEE {A B : Prop} (r : Pol) (n : Int) (h : B) : if (!PyData.eqv (ed r n) (ed r n)) = true then A else B := by
  rw [SeqAt.eqv_refl _ (SeqAt.canLay_of_shaped (ed_shaped r n))]
  exact iteF h
theorem eqv_nil (f : Pol) : PyData.eqv (pd f) (pd []) = decide (f = []) := by
  cases f with
  | nil => rfl
  | cons t r => rfl
theorem Nf.cfs {q : Int} {g : Pol} {F : Int → Int} (h : Nf q g F) (hq : q ≤ 97) : ∀ t ∈ g, -(2 ^ 64) < t.2 ∧ t.2 < 2 ^ 64 := fun t ht => by
  have := h.rng t ht
  omega
theorem len_add {q : Int} {f g r : Pol} (N : Nf q r (fun e => cf f e + cf g e)) : r.length ≤ f.length + g.length := by
  have := N.len (L := f.map (·.1) ++ g.map (·.1)) fun e he => by
    rw [cf_out (fun z => he (List.mem_append_left _ z)), cf_out (fun z => he (List.mem_append_right _ z))]
    rfl
  rw [List.length_append, List.length_map, List.length_map] at this
  exact this
theorem len_sub {q : Int} {f g r : Pol} (N : Nf q r (fun e => cf f e - cf g e)) : r.length ≤ f.length + g.length := by
  have := N.len (L := f.map (·.1) ++ g.map (·.1)) fun e he => by
    rw [cf_out (fun z => he (List.mem_append_left _ z)), cf_out (fun z => he (List.mem_append_right _ z))]
    rfl
  rw [List.length_append, List.length_map, List.length_map] at this
  exact this
theorem len_mul {q : Int} {f g r : Pol} (N : Nf q r (cf (prods f g))) : r.length ≤ f.length * g.length := by
  have := N.len (L := (prods f g).map (·.1)) fun e he => by
    rw [cf_out he]
    rfl
  rw [List.length_map, prods_len] at this
  exact this
theorem len_scale {q k : Int} {f r : Pol} (N : Nf q r (fun e => cf f e * k)) : r.length ≤ f.length := by
  have := N.len (L := f.map (·.1)) fun e he => by
    rw [cf_out he, Int.zero_mul]
    rfl
  rw [List.length_map] at this
  exact this
theorem nf_nil {q : Int} {F : Int → Int} (h : ∀ e, F e % q = 0) : Nf q [] F := ⟨.nil, fun t h => absurd h List.not_mem_nil, fun e => by rw [h]; rfl⟩
theorem nz_check : (primes.all fun q => (List.range q.toNat).all fun a => (List.range q.toNat).all fun b => a == 0 || b == 0 || (a * b % q.toNat != 0)) = true := by decide +kernel
theorem prime_nz {q : Int} (hq : q ∈ primes) {a b : Int} (ha : 0 < a) (ha' : a < q) (hb : 0 < b) (hb' : b < q) : a * b % q ≠ 0 := by
  intro h
  have h1 := List.all_eq_true.mp nz_check q hq
  have h2 := List.all_eq_true.mp h1 a.toNat (List.mem_range.mpr (by omega))
  have h3 := List.all_eq_true.mp h2 b.toNat (List.mem_range.mpr (by omega))
  simp only [Bool.or_eq_true, beq_iff_eq, bne_iff_ne, ne_eq] at h3
  rcases h3 with (h3 | h3) | h3
  · omega
  · omega
  · apply h3
    have e : ((a.toNat * b.toNat % q.toNat : Nat) : Int) = a * b % q := by
      rw [Int.natCast_emod, Int.natCast_mul, Int.toNat_of_nonneg (by omega), Int.toNat_of_nonneg (by omega), Int.toNat_of_nonneg (by omega)]
    rw [h] at e
    omega
theorem nf_one {q e c : Int} (h1 : 0 < c) (h2 : c < q) : Nf q [(e, c)] (cf [(e, c)]) := by
  refine ⟨List.pairwise_singleton _ _, fun t h => ?_, fun x => ?_⟩
  · have : t = (e, c) := by simpa using h
    rw [this]
    exact ⟨h1, h2⟩
  · rw [cf_cons, cf_nil]
    by_cases h : e = x
    · rw [if_pos h, Int.add_zero, Int.emod_eq_of_lt (by omega) h2]
    · rw [if_neg h]
      rfl
theorem len_rounds {q st : Int} {n : Nat} {r : Pol} {L : Nat} (N : Nf q r (cf (rounds n st))) (h : n ≤ L) : r.length ≤ L := by
  have := N.len (L := (rounds n st).map (·.1)) fun e he => by
    rw [cf_out he]
    rfl
  unfold rounds at this
  rw [List.length_map, List.length_map, List.length_range] at this
  omega
theorem len_comp {q m : Int} {f g r : Pol} (N : Nf q r (fun e => cf f e + cf g (e - m))) : r.length ≤ f.length + g.length := by
  have N' : Nf q r (fun e => cf f e + cf (moved m g) e) := N.to fun e => by rw [cf_moved]
  have := len_add N'
  rw [moved_len] at this
  exact this
theorem len_inv {q m : Int} {f r : Pol} (N : Nf q r (fun e => cf f (e + m) * -1)) : r.length ≤ f.length := by
  have N' : Nf q r (fun e => cf (moved (-m) f) e * -1) := N.to fun e => by rw [cf_moved, Int.sub_neg]
  have := len_scale N'
  rw [moved_len] at this
  exact this
theorem teff_sh {K : PySem.W.Frag} {H : Hp} {v : V} {f : Pol} {m n : Int} (e : m = n) (h : TEff K H v f m) : TEff K H v f n := by
  rw [← e]
  exact h
theorem undo_add (a b q : Int) : ((a + b) % q - b) % q = a % q := by
  rw [Int.sub_emod, Int.emod_emod, ← Int.sub_emod]
  congr 1
  omega
theorem geo_close {q st cnt : Int} {gap geo : Pol} (Ng : Nf q gap (fun e => cf [(0, 1)] e - cf [(st, 1)] e)) (No : Nf q geo (cf (rounds cnt.toNat st))) (h0 : 0 ≤ cnt) (e : Int) : cf (prods gap geo) e % q = (cf [(0, 1)] e - cf [(cnt * st, 1)] e) % q := by
  rw [cf_prods, conv_fst (f' := [(0, 1), (st, -1)]) (fun x => ?_) geo e, conv_mod (G' := cf (rounds cnt.toNat st)) (fun x => by rw [No.cof, Int.emod_emod])]
  · show (1 * cf (rounds cnt.toNat st) (e - 0) + (-1 * cf (rounds cnt.toNat st) (e - st) + 0)) % q = ((if 0 = e then 1 else 0) + 0 - ((if cnt * st = e then 1 else 0) + 0)) % q
    have h := rounds_tel st e cnt.toNat
    rw [Int.toNat_of_nonneg h0] at h
    congr 1
    rw [Int.sub_zero]
    omega
  · rw [Ng.cof, Int.emod_emod]
    congr 1
    show (if 0 = x then 1 else 0) + 0 - ((if st = x then 1 else 0) + 0) = (if 0 = x then 1 else 0) + ((if st = x then -1 else 0) + 0)
    by_cases h : st = x
    · rw [if_pos h, if_pos h]
      omega
    · rw [if_neg h, if_neg h]
      omega
theorem prod_ne {q : Int} {f g r : Pol} (hq : q ∈ primes) (nf : Nf q f (cf f)) (ng : Nf q g (cf g)) (nr : Nf q r (cf (prods f g))) (hf : f ≠ []) (hg : g ≠ []) : r ≠ [] := by
  intro hr
  obtain ⟨t, f', rfl⟩ := List.exists_cons_of_ne_nil hf
  obtain ⟨u, g', rfl⟩ := List.exists_cons_of_ne_nil hg
  have h := nr.cof (t.1 + u.1)
  rw [hr, cf_prods, conv_least nf.asc ng.asc] at h
  have a := nf.rng t List.mem_cons_self
  have b := ng.rng u List.mem_cons_self
  exact prime_nz hq a.1 a.2 b.1 b.2 h.symm
def sp_power0 (K : PySem.W.Frag) : Sp := fun vs H Q _ => ∃ (p : Int) (v : V) (f : Pol) (m c : Int), vs = [.int p, v, .int c] ∧ 0 < p ∧ TEff K H v f m ∧ 0 ≤ c ∧ c.natAbs ≤ 1000 ∧ f.length ≤ 1000 ∧ (∀ t ∈ f, -(2 ^ 64) < t.2 ∧ t.2 < 2 ^ 64) ∧ ∀ u H' r, Same H H' → TEff K H' u r (c * m) → Nf p r (fun e => pwF (cf f) m c e) → r.length ≤ f.length * c.natAbs → Q u H'
def sp_power (K : PySem.W.Frag) : Sp := fun vs H Q _ => ∃ (p : Int) (v : V) (f : Pol) (m c : Int), vs = [.int p, v, .int c] ∧ 0 < p ∧ p ≤ 97 ∧ TEff K H v f m ∧ c.natAbs ≤ 1000 ∧ f.length ≤ 1000 ∧ (∀ t ∈ f, -(2 ^ 64) < t.2 ∧ t.2 < 2 ^ 64) ∧ ∀ u H' r, Same H H' → TEff K H' u r (c * m) → Nf p r (fun e => pwF (cf f) m c e) → r.length ≤ f.length * c.natAbs → Q u H'
/-- order, of an effect that does not move -/
def sp_order (K : PySem.W.Frag) : Sp := fun vs H Q _ => ∃ (p : Int) (v : V) (f : Pol), vs = [.int p, v] ∧ TEff K H v f 0 ∧ Q (.int (if f = [] then 1 else p)) H
theorem Nf.subP {p : Int} {g : Pol} {F : Int → Int} {R : Int → Prop} (a : Nf p g F) (h : ∀ e, ¬ R e → F e % p = 0) : ∀ t ∈ g, R t.1 := fun t ht => by
  refine Classical.byContradiction fun n => ?_
  have e1 := a.cof t.1
  rw [cf_mem a.asc t ht, h _ n] at e1
  have := (a.rng t ht).1
  omega
theorem pow_sm {q m c : Int} {f r : Pol} (N : Nf q r (fun e => pwF (cf f) m c e)) (hq : q ≤ 97) (l : r.length ≤ 50000) (hf : ∀ t ∈ f, t.1.natAbs < 10 ^ 90) (hm : m.natAbs < 10 ^ 90) (hc : c.natAbs ≤ 1000) : Sm r := by
  refine ⟨l, fun t ht => ⟨N.subP (R := fun e => e.natAbs < 10 ^ 100) (fun e he => ?_) t ht, ?_⟩⟩
  · rw [pw_far c fun k hk => ?_]
    · rfl
    · refine cf_none f _ fun u hu z => he ?_
      have h1 := hf u hu
      have h2 : (k * m).natAbs ≤ 1000 * 10 ^ 90 := by
        rw [Int.natAbs_mul]
        exact Nat.mul_le_mul (Nat.le_trans hk hc) (Nat.le_of_lt hm)
      have h3 : 1000 * 10 ^ 90 + 10 ^ 90 < 10 ^ 100 := by decide +kernel
      have h4 : e = u.1 + k * m := by omega
      rw [h4]
      generalize k * m = km at h2
      omega
  · have := N.rng t ht
    exact Nat.lt_of_le_of_lt (show t.2.natAbs ≤ 97 by omega) (by decide +kernel)
end DR
namespace DR
open PySem PySem.Spec PyProof.Rows L2
/-! ### any data, and what is told of it -/
def tyName : PyData → String
  | .none => "NoneType"
  | .bool _ => "bool"
  | .int _ => "int"
  | .str _ => "str"
  | .list _ => "list"
  | .tuple _ => "tuple"
  | .dict _ => "dict"
def isTup : PyData → Bool
  | .tuple _ => true
  | _ => false
def isInt' : PyData → Bool
  | .int _ => true
  | .bool _ => true
  | _ => false
def isBool : PyData → Bool
  | .bool _ => true
  | _ => false
def isWhole : PyData → Bool
  | .int _ => true
  | _ => false
def isTerm (p : Int) : PyData → Bool
  | .tuple [.int _, .int c] => decide (1 ≤ c) && decide (c < p)
  | _ => false
def expo : PyData → Int
  | .tuple (.int e :: _) => e
  | _ => 0
def ascD : List PyData → Bool
  | x :: y :: r => decide (expo x < expo y) && ascD (y :: r)
  | _ => true
def isPoly (p : Int) : PyData → Bool
  | .tuple ds => ds.all (isTerm p) && ascD ds
  | _ => false
def isEff (p : Int) : PyData → Bool
  | .tuple [a, b] => isPoly p a && isWhole b
  | _ => false
/-- data, or an empty dict -/
def DpX (K : PySem.W.Frag) (H : Hp) (v : V) (d : PyData) : Prop := Dp K H v d ∨ ∃ a, v = .ref a ∧ H a = some (.dK []) ∧ d = .dict []
section
variable {K : PySem.W.Frag} {H H' : Hp} {v : V} {d : PyData}
theorem Dp.ty (h : Dp K H v d) : TyX K H v (.type (tyName d)) := by
  cases h with
  | non => exact .base .non
  | bl b => exact .base (.bl b)
  | int i => exact .base (.int i)
  | str x => exact .base (.str x)
  | lst hs _ =>
    rcases hs with (h | ⟨o, h⟩) | ⟨o, its, n, h, c, _⟩
    · exact .base (.lst h)
    · exact .base (.frz h)
    · exact .kList h c
  | tup hs _ =>
    rcases hs with (h | ⟨o, h⟩) | ⟨o, its, n, h, c, _⟩
    · exact .base (.tup h)
    · exact .fTuple h
    · exact .kTuple h c
theorem DpX.ty (h : DpX K H v d) : TyX K H v (.type (tyName d)) := by
  rcases h with h | ⟨a, rfl, h, rfl⟩
  · exact Dp.ty h
  · exact .base (.dK h)
theorem kit_tuple (d : PyData) : PySem.W.kitOne K (.type (tyName d)) (.type "tuple") = some (isTup d) := by
  cases d with
  | none => exact kit_ty (show kitB "NoneType" "tuple" = some false by decide +kernel)
  | bool b => exact kit_ty (show kitB "bool" "tuple" = some false by decide +kernel)
  | int i => exact kit_ty (show kitB "int" "tuple" = some false by decide +kernel)
  | str x => exact kit_ty (show kitB "str" "tuple" = some false by decide +kernel)
  | list xs => exact kit_ty (show kitB "list" "tuple" = some false by decide +kernel)
  | tuple xs => exact kit_ty (show kitB "tuple" "tuple" = some true by decide +kernel)
  | dict kvs => exact kit_ty (show kitB "dict" "tuple" = some false by decide +kernel)
theorem kit_int (d : PyData) : PySem.W.kitOne K (.type (tyName d)) (.type "int") = some (isInt' d) := by
  cases d with
  | none => exact kit_ty (show kitB "NoneType" "int" = some false by decide +kernel)
  | bool b => exact kit_ty (show kitB "bool" "int" = some true by decide +kernel)
  | int i => exact kit_ty (show kitB "int" "int" = some true by decide +kernel)
  | str x => exact kit_ty (show kitB "str" "int" = some false by decide +kernel)
  | list xs => exact kit_ty (show kitB "list" "int" = some false by decide +kernel)
  | tuple xs => exact kit_ty (show kitB "tuple" "int" = some false by decide +kernel)
  | dict kvs => exact kit_ty (show kitB "dict" "int" = some false by decide +kernel)
theorem kit_bool (d : PyData) : PySem.W.kitOne K (.type (tyName d)) (.type "bool") = some (isBool d) := by
  cases d with
  | none => exact kit_ty (show kitB "NoneType" "bool" = some false by decide +kernel)
  | bool b => exact kit_ty (show kitB "bool" "bool" = some true by decide +kernel)
  | int i => exact kit_ty (show kitB "int" "bool" = some false by decide +kernel)
  | str x => exact kit_ty (show kitB "str" "bool" = some false by decide +kernel)
  | list xs => exact kit_ty (show kitB "list" "bool" = some false by decide +kernel)
  | tuple xs => exact kit_ty (show kitB "tuple" "bool" = some false by decide +kernel)
  | dict kvs => exact kit_ty (show kitB "dict" "bool" = some false by decide +kernel)
mutual
theorem Dp.same (e : Same H H') : ∀ {v : V} {d : PyData}, Dp K H v d → Dp K H' v d
  | _, _, .non => .non
  | _, _, .bl b => .bl b
  | _, _, .int i => .int i
  | _, _, .str x => .str x
  | _, _, .lst hs ha => .lst (e.seq hs) (DpAll.same e ha)
  | _, _, .tup hs ha => .tup (same_t e hs) (DpAll.same e ha)
theorem DpAll.same (e : Same H H') : ∀ {vs : List V} {ds : List PyData}, DpAll K H vs ds → DpAll K H' vs ds
  | _, _, .nil => .nil
  | _, _, .cons h t => .cons (Dp.same e h) (DpAll.same e t)
end
theorem DpX.same (e : Same H H') (h : DpX K H v d) : DpX K H' v d := h.elim (fun z => .inl (Dp.same e z)) fun ⟨a, e1, e2, e3⟩ => .inr ⟨a, e1, e _ _ e2, e3⟩
theorem DpAll.len : ∀ {vs : List V} {ds : List PyData}, DpAll K H vs ds → vs.length = ds.length
  | _, _, .nil => rfl
  | _, _, .cons _ t => by rw [List.length_cons, List.length_cons, DpAll.len t]
theorem DpAll.get : ∀ {vs : List V} {ds : List PyData} {i : Nat} {x : V}, DpAll K H vs ds → vs[i]? = some x → ∃ d, ds[i]? = some d ∧ Dp K H x d
  | _, _, _, _, .nil, e => by simp at e
  | _, _, 0, _, .cons h _, e => by
    simp at e
    subst e
    exact ⟨_, rfl, h⟩
  | _, _, i + 1, x, .cons _ t, e => by
    obtain ⟨d, h1, h2⟩ := DpAll.get (i := i) (x := x) t (by simpa using e)
    exact ⟨d, by simpa using h1, h2⟩
/-- a tuple's items -/
theorem Dp.tup_inv {ds : List PyData} (h : Dp K H v (.tuple ds)) : ∃ a xs, v = .ref a ∧ SqT K H a xs ∧ DpAll K H xs ds := by
  cases h with
  | tup hs ha => exact ⟨_, _, rfl, hs, ha⟩
theorem Dp.pair_inv {e c : Int} (h : Dp K H v (.tuple [.int e, .int c])) : ∃ a, v = .ref a ∧ SqT K H a [.int e, .int c] := by
  cases h with
  | tup hs ha =>
    cases ha with
    | cons h1 t =>
      cases t with
      | cons h2 t2 =>
        cases t2
        cases h1
        cases h2
        exact ⟨_, rfl, hs⟩
theorem Dp.int_inv {i : Int} (h : Dp K H v (.int i)) : v = .int i := by
  cases h
  rfl
end
theorem isTup_inv {d : PyData} (h : isTup d = true) : ∃ ds, d = .tuple ds := by
  cases d <;> first | exact ⟨_, rfl⟩ | cases h
theorem isWhole_inv {d : PyData} (h : isWhole d = true) : ∃ i, d = .int i := by
  cases d <;> first | exact ⟨_, rfl⟩ | cases h
theorem isTerm_inv {p : Int} {d : PyData} (h : isTerm p d = true) : ∃ e c, d = .tuple [.int e, .int c] ∧ 1 ≤ c ∧ c < p := by
  unfold isTerm at h
  split at h
  · rename_i e c
    rw [Bool.and_eq_true, decide_eq_true_eq, decide_eq_true_eq] at h
    exact ⟨e, c, rfl, h.1, h.2⟩
  · cases h
def sp_is_whole (K : PySem.W.Frag) : Sp := fun vs H Q _ => ∃ (v : V) (d : PyData), vs = [v] ∧ DpX K H v d ∧ Q (.bl (isWhole d)) H
def sp_is_term (K : PySem.W.Frag) : Sp := fun vs H Q _ => ∃ (p : Int) (v : V) (d : PyData), vs = [.int p, v] ∧ Dp K H v d ∧ Q (.bl (isTerm p d)) H
def sp_is_polynomial (K : PySem.W.Frag) : Sp := fun vs H Q _ => ∃ (p : Int) (v : V) (d : PyData), vs = [.int p, v] ∧ DpX K H v d ∧ (∀ ds, d = .tuple ds → ds.length ≤ 1000000) ∧ ∀ H', Same H H' → Q (.bl (isPoly p d)) H'
def sp_is_effect (K : PySem.W.Frag) : Sp := fun vs H Q _ => ∃ (p : Int) (v : V) (d : PyData), vs = [.int p, v] ∧ DpX K H v d ∧ (∀ ds es, d = .tuple ds → PyData.tuple es ∈ ds → es.length ≤ 1000000) ∧ ∀ H', Same H H' → Q (.bl (isEff p d)) H'
/-- [f(x) for x in a tuple], f a truth value -/
theorem lcBool {K : PySem.W.Frag} {a : Addr} {xs : List V} {ds : List PyData} {σ : L2.St} {H : Hp} {vs : List Nat} {n i : Nat} {te : TE} {Q : VK} (f : PyData → Bool) (hv : σ[n]? = some (some (.ref a))) (hs : SqT K H a xs) (hP : DpAll K H xs ds) (hl : ds.length ≤ 1000000)
    (hw : ∀ x, wipe ((wipe σ vs).set i (some x)) vs = wipe σ vs)
    (he : ∀ x d H2, Same H H2 → Dp K H2 x d → ∀ R : VK, R (.bl (f d)) H2 → te ((wipe σ vs).set i (some x)) H2 R)
    (k : ∀ D H2, Same H H2 → H2 D = some (.lst ((ds.map f).map V.bl)) → Q (.ref D) H2) : tLc (iTup K (tVar n)) (gName i) tYes te vs σ H Q := by
  refine ⟨_, hv, a, rfl, ⟨_, hs⟩, fun D nD => lc_tup (K := K) (a := a) (xs := xs) (fun m H2 => Same H H2 ∧ H2 D = some (.lst (((ds.take m).map f).map V.bl))) ⟨same_new nD, upd_same⟩ (fun m H2 _ g => same_t g.1 hs) ?_ ?_⟩
  · rintro m x H2 hm ⟨s2, h2⟩
    obtain ⟨d, hd, hx⟩ := DpAll.get hP hm
    refine ⟨hw _, ?_⟩
    dsimp only [tYes]
    rw [if_pos rfl]
    have hm2 : m < ds.length := (List.getElem?_eq_some_iff.mp hd).1
    refine he x d H2 s2 (Dp.same s2 hx) _ ⟨_, h2, sl_lt (by rw [List.length_map, List.length_map, List.length_take]; omega), same_mut s2 nD, ?_⟩
    rw [upd_same, take_snoc hd, List.map_append, List.map_append]
    rfl
  · rintro H2 ⟨s2, h2⟩
    rw [DpAll.len hP, List.take_length] at h2
    exact k D H2 s2 h2
theorem cut1 (xs : List V) : cutV xs (some 1) none = xs.drop 1 := by
  unfold cutV
  rw [show HT.sIx xs.length 0 (some 1) = min 1 xs.length from HT.sIx_nat xs.length 0 1, HT.sIx_none]
  cases xs with
  | nil => rfl
  | cons x r =>
    rw [show min 1 (x :: r).length = 1 by
      rw [List.length_cons]
      omega]
    show (List.take ((x :: r).length - 1) r) = r
    rw [List.length_cons, Nat.add_sub_cancel]
    exact List.take_length
/-- the pairs of neighbours, compared -/
def ups : List PyData → List Bool
  | x :: y :: r => decide (expo x < expo y) :: ups (y :: r)
  | _ => []
theorem ups_len : ∀ ds : List PyData, (ups ds).length = ds.length - 1
  | [] => rfl
  | [_] => rfl
  | x :: y :: r => by
    show (ups (y :: r)).length + 1 = _
    rw [ups_len (y :: r)]
    show r.length + 1 - 1 + 1 = r.length + 1 + 1 - 1
    omega
theorem ups_get : ∀ (ds : List PyData) (i : Nat) (x y : PyData), ds[i]? = some x → ds[i + 1]? = some y → (ups ds)[i]? = some (decide (expo x < expo y))
  | [], _, _, _, h, _ => by simp at h
  | [_], 0, _, _, _, h => by simp at h
  | [_], i + 1, _, _, h, _ => by simp at h
  | a :: b :: r, 0, x, y, h, h2 => by
    have e1 : a = x := Option.some.inj h
    have e2 : b = y := Option.some.inj h2
    rw [← e1, ← e2]
    rfl
  | a :: b :: r, i + 1, x, y, h, h2 => ups_get (b :: r) i x y h h2
theorem ups_all : ∀ ds : List PyData, (ups ds).all id = ascD ds
  | [] => rfl
  | [_] => rfl
  | x :: y :: r => by
    show (decide (expo x < expo y) && (ups (y :: r)).all id) = _
    rw [ups_all (y :: r)]
    rfl
/-! ### what canonical polynomials and effects are told to be -/
theorem term_pr {p : Int} {t : Int × Int} (h : 0 < t.2 ∧ t.2 < p) : isTerm p (pr t) = true := by
  show (decide (1 ≤ t.2) && decide (t.2 < p)) = true
  rw [decide_eq_true (by omega), decide_eq_true h.2]
  rfl
theorem asc_prs : ∀ {g : Pol}, (g.Pairwise fun x y => x.1 < y.1) → ascD (g.map pr) = true
  | [], _ => rfl
  | [_], _ => rfl
  | t :: u :: r, h => by
    have a := List.pairwise_cons.mp h
    show (decide (t.1 < u.1) && ascD ((u :: r).map pr)) = true
    rw [decide_eq_true (a.1 u List.mem_cons_self), asc_prs a.2]
    rfl
theorem nf_poly {p : Int} {g : Pol} {F : Int → Int} (h : Nf p g F) : isPoly p (pd g) = true := by
  show ((g.map pr).all (isTerm p) && ascD (g.map pr)) = true
  rw [asc_prs h.asc, Bool.and_true, List.all_eq_true]
  intro x hx
  obtain ⟨t, ht, rfl⟩ := List.mem_map.mp hx
  exact term_pr (h.rng t ht)
theorem nf_eff {p : Int} {g : Pol} {F : Int → Int} (h : Nf p g F) (n : Int) : isEff p (ed g n) = true := by
  show (isPoly p (pd g) && true) = true
  rw [nf_poly h]
  rfl
/-- [t[0] < f[0] for t, f in zip(x, x[1:])] -/
theorem lcZip {K : PySem.W.Frag} {a b : Addr} {xs : List V} {ds : List PyData} {σ : L2.St} {H : Hp} {vs : List Nat} {i j : Nat} {te : TE} {Q : VK} (hs : SqT K H a xs) (hb : SqT K H b (xs.drop 1)) (hP : DpAll K H xs ds) (hl : ds.length ≤ 1000000)
    (hw : ∀ x y, wipe (((wipe σ vs).set i (some x)).set j (some y)) vs = wipe σ vs)
    (he : ∀ x y d d' H2, Same H H2 → d ∈ ds → d' ∈ ds → Dp K H2 x d → Dp K H2 y d' → ∀ R : VK, R (.bl (decide (expo d < expo d'))) H2 → te (((wipe σ vs).set i (some x)).set j (some y)) H2 R)
    (k : ∀ D H2, Same H H2 → H2 D = some (.lst ((ups ds).map V.bl)) → Q (.ref D) H2) : tLc (fun _ H R => R (RZ.ItzT K a b) H) (gTup K 2 (gCons (gName i) (gCons (gName j) gNil))) tYes te vs σ H Q := by
  intro D nD
  have hlen : xs.length = ds.length := DpAll.len hP
  refine ⟨fun m r H2 => m + r = ds.length - 1 ∧ Same H H2 ∧ H2 D = some (.lst (((ups ds).take m).map V.bl)), ⟨ds.length - 1, by omega, same_new nD, upd_same⟩, fun m r H2 hW => ?_⟩
  obtain ⟨em, s2, h2⟩ := hW
  have hA : SqT K H2 a xs := same_t s2 hs
  have hB : SqT K H2 b (xs.drop 1) := same_t s2 hb
  by_cases hm : m < ds.length - 1
  · have m1 : m < xs.length := by omega
    have m2 : m + 1 < xs.length := by omega
    have g1 : xs[m]? = some xs[m] := List.getElem?_eq_getElem m1
    have g2 : (xs.drop 1)[m]? = some xs[m + 1] := by
      rw [List.getElem?_drop, Nat.add_comm 1 m, List.getElem?_eq_getElem m2]
    obtain ⟨d, hd, hx⟩ := DpAll.get hP g1
    obtain ⟨d', hd', hy⟩ := DpAll.get hP (List.getElem?_eq_getElem m2)
    have gu := ups_get ds m d d' hd hd'
    refine .inr ⟨⟨xs, xs.drop 1, _, _, hA, hB, g1, g2⟩, fun H' => Same H H' ∧ H' D = some (.lst (((ups ds).take (m + 1)).map V.bl)), fun H' hN => ⟨r - 1, by omega, by omega, hN.1, hN.2⟩, fun v H' hy' => ?_⟩
    obtain ⟨T, x1, x2, rfl, nT, rfl, f1, f2⟩ := hy'
    have ex1 : x1 = xs[m] := Option.some.inj ((f1 _ hA).symm.trans g1)
    have ex2 : x2 = xs[m + 1] := Option.some.inj ((f2 _ hB).symm.trans g2)
    subst ex1
    subst ex2
    have sT : Same H2 (upd H2 T (.tup [xs[m], xs[m + 1]])) := same_new nT
    have s3 := s2.trans sT
    refine ⟨T, _, rfl, SqT.of upd_same, rfl, _, _, rfl, _, _, rfl, rfl, hw _ _, ?_⟩
    dsimp only [tYes]
    rw [if_pos rfl]
    refine he _ _ d d' _ s3 (List.mem_of_getElem? hd) (List.mem_of_getElem? hd') (Dp.same s3 hx) (Dp.same s3 hy) _ ⟨_, sT _ _ h2, sl_lt ?_, same_mut s3 nD, ?_⟩
    · rw [List.length_map, List.length_take]
      omega
    · rw [upd_same, take_snoc gu, List.map_append]
      rfl
  · refine .inl ⟨⟨xs, xs.drop 1, hA, hB, .inr ?_⟩, ?_⟩
    · rw [List.length_drop]
      omega
    · have e : m = ds.length - 1 := by omega
      rw [e, ← ups_len, List.take_length] at h2
      exact k D H2 s2 h2
theorem two {α : Type} {xs : List α} (h : xs.length = 2) : ∃ a b, xs = [a, b] := by
  match xs, h with
  | [a, b], _ => exact ⟨a, b, rfl⟩
end DR
namespace DR
open PySem PySem.Spec PyProof.Rows L2
/-! ### repr of any data, and of an empty dict -/
section
variable {X : Cx}
theorem call_reprX (hg : X.A.guards = some []) (hu : X.A.units + 100 < cLine) : CallR X (.builtin "repr") (fun xs H Q => ∃ (x : V) (d : PyData), xs = [x] ∧ DpX X.K H x d ∧ d.showable = true ∧ (d.hasDict = true → d = .dict []) ∧ d.depth ≤ 64 ∧ d.shown.length ≤ sizeLine ∧ Q (.str d.shown) H) := by
  intro pins s σ H xs us Q I r h
  obtain ⟨x, d, rfl, hd, hs, hn, hz, hl, q⟩ := h
  obtain ⟨u, rfl, rx⟩ := vals1 r
  rcases hd with hd | ⟨a, rfl, ha, rfl⟩
  · cases hd with
    | non =>
      obtain rfl : u = Value.none := rx
      exact PySem.P.repr_of_none ⟨.str _, H, I.tok _, ⟨_, rfl⟩, q⟩
    | bl b =>
      obtain rfl : u = Value.bool b := rx
      refine PySem.P.repr_of_bool ⟨.str _, H, I.tok _, ⟨_, rfl⟩, ?_⟩
      cases b <;> exact q
    | int i =>
      obtain ⟨t, rfl⟩ := rx
      exact PySem.P.repr_of_int (of_decide_eq_true hs) ⟨.str _, H, I.tok _, ⟨_, rfl⟩, q⟩
    | str y =>
      obtain ⟨t, rfl⟩ := rx
      exact PySem.P.repr_of_str ⟨.str _, H, I.tok _, ⟨_, rfl⟩, q⟩ hl
    | @lst a xs ds h1 h2 =>
      obtain rfl : u = Value.ref a := rx
      obtain ⟨as, rd⟩ := Dp.reads I _ _ _ (Dp.lst h1 h2) rfl
      refine repr_of_reads' rd hs (fun z => absurd (hn z) (by intro e; cases e)) hg (by omega) (fun _ _ e => e) (fun h' t tk hk => ?_) hl
      exact ⟨.str _, H, I.kept hk, ⟨t, rfl⟩, q⟩
    | @tup a xs ds h1 h2 =>
      obtain rfl : u = Value.ref a := rx
      obtain ⟨as, rd⟩ := Dp.reads I _ _ _ (Dp.tup h1 h2) rfl
      refine repr_of_reads' rd hs (fun z => absurd (hn z) (by intro e; cases e)) hg (by omega) (fun _ _ e => e) (fun h' t tk hk => ?_) hl
      exact ⟨.str _, H, I.kept hk, ⟨t, rfl⟩, q⟩
  · obtain rfl : u = Value.ref a := rx
    obtain ⟨z, lo, vs, rel, o, es, ep, e1, ex, e2, _, e4, _⟩ := dk_rd I.hok (Rd.of ha)
    cases rel
    have e5 : es.toList = [] := by
      cases h : es.toList with
      | nil => rfl
      | cons y ys =>
        rw [h] at e4
        cases e4
    have rd : Reads s.heap (.ref a) (.dict []) (a :: [] ++ []) := .dict (kvs := []) e1 ex.1 e2 (by rw [e5]; exact .nil) (by rw [e5]; exact .nil)
    refine repr_of_reads' rd hs (fun _ hm => ?_) hg (by omega) (fun _ _ e => e) (fun h' t tk hk => ?_) hl
    · have e6 : sysModules = a := by simpa using hm
      rw [e6] at lo
      simp at lo
    · exact ⟨.str _, H, I.kept hk, ⟨t, rfl⟩, q⟩
end
end DR
namespace DR
open PySem PySem.Spec PyProof.Rows L2
/-! ### a call by keywords alone -/
section
variable {X : Cx} {CX : CXT} {k : Nat} {f : Addr} {fd : FuncData} {ps ks : List Str} {sp : Sp} {E : XK} {x : Str} {p pos : Pos} {kws : List Keyword} {tk : TA} {g : List Value → List Value → List Value} {gV : List V → List V → List V}
/-- the keywords of a call, none of them `**` -/
structure KwsAre (pos : Pos) (kws : List Keyword) (env : Env) (ks : List Str) : Prop where
  named : (backToKw pos (keywordEach kws env)).all (·.1.isSome) = true
  names : (backToKw pos (keywordEach kws env)).filterMap (·.1) = ks
  plain : ((backTo pos (starEach [] env)).any (·.1) || (backToKw pos (keywordEach kws env)).any (·.1.isNone)) = false
theorem pe_callK0 (F : FnOk X.prog X.w X.K X.mg X.base CX k f fd ps sp) (hr : Room k X.A) (hg : Gl X x) (hm : X.mg x = some (.ref f)) (hk : PySem.W.keepIn X.K (.ref f) = true) (hb : KBinds X.K fd ps ks g gV) (hx : Passes CX X E) (hkw : PK X kws tk)
    (said : KwsAre pos kws X.env ks := by exact ⟨rfl, rfl, rfl⟩) (hdb : (x == ("__debug__" : Str)) = false := by decide) :
    PE X (.Call (.Name x p) [] kws pos) (tCallK sp gV E tNil tk) := by
  refine ⟨fun pins now σ H Q I told => wpAny_Call_Name_kw (ld_glob I hg hm (PySem.W.callWith_KW0 (h₀ := X.base) I.ok.mod.kin hk said.named ?_ said.plain) hdb)⟩
  refine thn (hkw.run pos pins now σ H _ I told) fun ws s2 ⟨zs, H2, I2, rz, q2⟩ => ⟨I2.kIn, ?_⟩
  rw [said.names]
  exact run_fnk (us := []) (vs := []) F hr hb hx I2 .nil rz q2
end
/-- two keywords, in the other order -/
def sw2 {α : Type} : List α → List α → List α
  | [], [a, b] => [b, a]
  | _, _ => []
theorem sw2_rel {vs : List V} {us : List Value} {zs : List V} {ws : List Value} (h : Vals vs us) (h2 : Vals zs ws) : Vals (sw2 vs zs) (sw2 us ws) := by
  cases h with
  | nil =>
    cases h2 with
    | nil => exact .nil
    | cons a t =>
      cases t with
      | nil => exact .nil
      | cons b t2 =>
        cases t2 with
        | nil => exact .cons b (.cons a .nil)
        | cons _ _ => exact .nil
  | cons _ _ =>
    cases h2 with
    | nil => exact .nil
    | cons a t => exact .nil
structure CalW (P : Program) (w : World) (K : PySem.W.Frag) (mg : Str → Option Value) (base : Heap) (k : Nat) (x : Str) (k1 k2 : Str) (sp : Sp) : Prop where
  ex : ∃ (f : Addr) (fd : FuncData), FnOk P w K mg base CX0 k f fd [k2, k1] sp ∧ mg x = some (.ref f) ∧ PySem.W.keepIn K (.ref f) = true ∧ KBinds K fd [k2, k1] [k1, k2] sw2 sw2
theorem calw_of {P : Program} {w : World} {K : PySem.W.Frag} {mg : Str → Option Value} {base : Heap} {k : Nat} {x k1 k2 : Str} {st : Stmt} {sp : Sp} (D : Df K mg x st)
    (b : ∀ (kV doc pm : Value) (an : Option Addr) (cdv ct : Value) (u v : Value), bindArgs (PySem.W.fnOf x x (defArgs st) (defBody st) (defScope st) .none kV doc pm an cdv ct) ⟨[], [(k1, u), (k2, v)]⟩ = pure [(k2, v), (k1, u)])
    (ok : ∀ f fd, Fun K x x st f fd → FnOk P w K mg base CX0 k f fd [k2, k1] sp) : CalW P w K mg base k x k1 k2 sp := by
  obtain ⟨f, fd, F, hm, kp⟩ := D.ex
  refine ⟨f, fd, ok f fd F, hm, kp, ⟨fun s us ws _ hl => ?_, sw2_rel⟩⟩
  obtain ⟨_, _, kV, doc, pm, an, cdv, ct, _, rfl, _⟩ := F.ex
  match us, ws, hl with
  | [], [u, v], _ => exact .of_eq (b kV doc pm an cdv ct u v)
theorem pe_cw {X : Cx} {k j : Nat} {x k1 k2 : Str} {sp : Sp} {p pos : Pos} {kws : List Keyword} {tk : TA} (c : CalW X.prog X.w X.K X.mg X.base k x k1 k2 sp) (hr : Room j X.A) (hk : k ≤ j) (hg : Gl X x) (hkw : PK X kws tk)
    (said : KwsAre pos kws X.env [k1, k2] := by exact ⟨rfl, rfl, rfl⟩) (hdb : (x == ("__debug__" : Str)) = false := by decide) :
    PE X (.Call (.Name x p) [] kws pos) (tCallK sp sw2 E0 tNil tk) := by
  obtain ⟨f, fd, F, hm, kp, b⟩ := c.ex
  exact pe_callK0 F (hr.mono hk) hg hm kp b pass0 hkw said hdb
/-! ### least and greatest -/
def loL (x : Int) (r : List Int) : Int := r.foldr min x
def hiL (x : Int) (r : List Int) : Int := r.foldr max x
theorem loL_le (x : Int) : ∀ (r : List Int), loL x r ≤ x ∧ ∀ y ∈ r, loL x r ≤ y
  | [] => ⟨Int.le_refl _, fun y h => absurd h List.not_mem_nil⟩
  | z :: r => by
    obtain ⟨a, b⟩ := loL_le x r
    have e : loL x (z :: r) = min z (loL x r) := rfl
    refine ⟨by omega, fun y hy => ?_⟩
    rcases List.mem_cons.mp hy with q | q
    · rw [q]; omega
    · have := b y q; omega
theorem loL_mem (x : Int) : ∀ (r : List Int), loL x r ∈ x :: r
  | [] => List.mem_cons_self
  | z :: r => by
    have h := loL_mem x r
    have e : loL x (z :: r) = min z (loL x r) := rfl
    by_cases q : z ≤ loL x r
    · rw [e, Int.min_eq_left q]
      exact List.mem_cons_of_mem _ List.mem_cons_self
    · rw [e, Int.min_eq_right (by omega)]
      rcases List.mem_cons.mp h with w | w
      · rw [w]; exact List.mem_cons_self
      · exact List.mem_cons_of_mem _ (List.mem_cons_of_mem _ w)
theorem loL_eq {x m : Int} {r : List Int} (h : m ∈ x :: r) (l : ∀ y ∈ x :: r, m ≤ y) : m = loL x r := by
  have h1 := l _ (loL_mem x r)
  have h2 : loL x r ≤ m := by
    rcases List.mem_cons.mp h with q | q
    · rw [q]; exact (loL_le x r).1
    · exact (loL_le x r).2 m q
  omega
theorem hiL_ge (x : Int) : ∀ (r : List Int), x ≤ hiL x r ∧ ∀ y ∈ r, y ≤ hiL x r
  | [] => ⟨Int.le_refl _, fun y h => absurd h List.not_mem_nil⟩
  | z :: r => by
    obtain ⟨a, b⟩ := hiL_ge x r
    have e : hiL x (z :: r) = max z (hiL x r) := rfl
    refine ⟨by omega, fun y hy => ?_⟩
    rcases List.mem_cons.mp hy with q | q
    · rw [q]; omega
    · have := b y q; omega
theorem hiL_mem (x : Int) : ∀ (r : List Int), hiL x r ∈ x :: r
  | [] => List.mem_cons_self
  | z :: r => by
    have h := hiL_mem x r
    have e : hiL x (z :: r) = max z (hiL x r) := rfl
    by_cases q : hiL x r ≤ z
    · rw [e, Int.max_eq_left q]
      exact List.mem_cons_of_mem _ List.mem_cons_self
    · rw [e, Int.max_eq_right (by omega)]
      rcases List.mem_cons.mp h with w | w
      · rw [w]; exact List.mem_cons_self
      · exact List.mem_cons_of_mem _ (List.mem_cons_of_mem _ w)
theorem hiL_eq {x m : Int} {r : List Int} (h : m ∈ x :: r) (l : ∀ y ∈ x :: r, y ≤ m) : m = hiL x r := by
  have h1 := l _ (hiL_mem x r)
  have h2 : m ≤ hiL x r := by
    rcases List.mem_cons.mp h with q | q
    · rw [q]; exact (hiL_ge x r).1
    · exact (hiL_ge x r).2 m q
  omega
/-! ### the length of an effect -/
def places (f : Pol) (m : Int) : List Int := m :: f.map (·.1)
def lo (f : Pol) (m : Int) : Int := loL 0 (places f m)
def hi (f : Pol) (m : Int) : Int := hiL 0 (places f m)
def ft (p v : Int) : Int := if p - v < v then p - v else v
def absI (m : Int) : Int := if m < 0 then -m else m
def turnsOf (p : Int) (f : Pol) : Int := (f.map fun t => ft p t.2).sum
def lenE (p : Int) (f : Pol) (m : Int) : Int := 2 * (hi f m - lo f m) - absI m + turnsOf p f
def sp_fewest_turns : Sp := fun vs H Q _ => ∃ (p v : Int), vs = [.int p, .int v] ∧ Q (.int (ft p v)) H
def sp_cost : Sp := fun vs H Q _ => ∃ (p v : Int), vs = [.int p, .int v] ∧ 0 < v ∧ v < p ∧ Q (.int (ft p v)) H
def sp_reach (K : PySem.W.Frag) : Sp := fun vs H Q _ => ∃ (v : V) (f : Pol) (m : Int), vs = [v] ∧ TEff K H v f m ∧ f.length ≤ 100000 ∧ ∀ a H', Same H H' → SqT K H' a [.int (lo f m), .int (hi f m)] → Q (.ref a) H'
def sp_length (K : PySem.W.Frag) : Sp := fun vs H Q _ => ∃ (p : Int) (v : V) (f : Pol) (m : Int), vs = [.int p, v] ∧ TEff K H v f m ∧ f.length ≤ 100000 ∧ ∀ H', Same H H' → Q (.int (lenE p f m)) H'
def sp_size (K : PySem.W.Frag) : Sp := fun vs H Q _ => ∃ (p : Int) (v : V) (f : Pol) (m : Int), vs = [.int p, v] ∧ TEff K H v f m ∧ f.length ≤ 100000 ∧ (∀ t ∈ f, 0 < t.2 ∧ t.2 < p) ∧ ∀ H', Same H H' → Q (.int (lenE p f m)) H'
/-- [an int for x, y in a tuple of pairs] -/
theorem lcTi {K : PySem.W.Frag} {a : Addr} {xs : List V} {f : Pol} {σ : L2.St} {H : Hp} {vs : List Nat} {i j : Nat} {te tv : TE} {Q : VK} (G : Int × Int → Int) (hv : ∀ R : VK, R (.ref a) H → tv σ H R) (hs : SqT K H a xs) (hP : Prs K H xs f) (hl : f.length ≤ 100000)
    (hw : ∀ x y, wipe (((wipe σ vs).set i (some x)).set j (some y)) vs = wipe σ vs)
    (he : ∀ t ∈ f, ∀ H2, Same H H2 → ∀ R : VK, R (.int (G t)) H2 → te (((wipe σ vs).set i (some (.int t.1))).set j (some (.int t.2))) H2 R)
    (k : ∀ D H2, H D = none → Same H H2 → H2 D = some (.lst ((f.map G).map V.int)) → Q (.ref D) H2) : tLc (iTup K tv) (gTup K 2 (gCons (gName i) (gCons (gName j) gNil))) tYes te vs σ H Q := by
  refine hv _ ⟨a, rfl, ⟨_, hs⟩, fun D nD => lc_tup (K := K) (a := a) (xs := xs) (fun m H2 => Same H H2 ∧ H2 D = some (.lst (((f.take m).map G).map V.int))) ⟨same_new nD, upd_same⟩ (fun m H2 _ g => same_t g.1 hs) ?_ ?_⟩
  · rintro m x H2 hm ⟨s2, h2⟩
    obtain ⟨t, ht, b, rfl, hb⟩ := hP.get hm
    refine ⟨b, _, rfl, same_t s2 hb, rfl, _, _, rfl, _, _, rfl, rfl, hw _ _, ?_⟩
    dsimp only [tYes]
    rw [if_pos rfl]
    have hm2 : m < f.length := (List.getElem?_eq_some_iff.mp ht).1
    refine he t (List.mem_of_getElem? ht) H2 s2 _ ⟨_, h2, sl_lt (by rw [List.length_map, List.length_map, List.length_take]; omega), same_mut s2 nD, ?_⟩
    rw [upd_same, take_snoc ht, List.map_append, List.map_append]
    rfl
  · rintro H2 ⟨s2, h2⟩
    rw [hP.len, List.take_length] at h2
    exact k D H2 nD s2 h2
/-- [a pair of ints for k in range(..)], drawn by the pen -/
theorem lcPenP {K : PySem.W.Frag} {p c : Addr} {σ : L2.St} {H : Hp} {vs : List Nat} {i : Nat} {te : TE} {ta : TA} {Q : VK} (R : Int × Int → Prop) (N b cost : Nat) (hn : N ≤ 1000)
    (hw : ∀ x, wipe ((wipe σ vs).set i (some x)) vs = wipe σ vs) (pen0 : PenAt H p c 0 ∨ ∃ n, PenAt H p c n)
    (hv : ∀ S : List V → Hp → Prop, (∀ (r : Int) H1, 0 ≤ r → r ≤ (N : Int) → Kp p H H1 → PenAt H1 p c b → S [.int r] H1) → ta σ H S)
    (he : ∀ (m : Nat), m < N → ∀ H2, Kp p H H2 → PenAt H2 p c (b + cost * m) → ∀ S : VK, (∀ t H3 q, R t → H3 q = none → Kp p H2 H3 → PenAt H3 p c (b + cost * (m + 1)) → S (.ref q) (upd H3 q (.tup [.int t.1, .int t.2]))) → te ((wipe σ vs).set i (some (.int (0 + (m : Int))))) H2 S)
    (k : ∀ D H2 f, LPol K H2 (.ref D) f → f.length ≤ N → (∀ t ∈ f, R t) → Kp p H H2 → PenAt H2 p c (b + cost * N) → Q (.ref D) H2) : tLc (iRng1 ta) (gName i) tYes te vs σ H Q := by
  refine hv _ fun r H1 h0 h9 kp1 pen1 => ?_
  refine ⟨r, rfl, by omega, by omega, fun D nD => ?_⟩
  have npD := pen1.np nD
  have ncD := pen1.nc nD
  refine lc_range (lo := 0) (n := r.toNat) (fun m H2 => ∃ xs f, H2 D = some (.lst xs) ∧ Prs K H2 xs f ∧ f.length = m ∧ (∀ t ∈ f, R t) ∧ Kp p H1 H2 ∧ PenAt H2 p c (b + cost * m)) ⟨[], [], upd_same, .nil, rfl, fun t h => absurd h List.not_mem_nil, Same.kp (same_new nD), pen1.same (same_new nD)⟩ ?_ ?_
  · rintro m H2 hm ⟨xs, f, hD, hP, hl, hR, kp, pen2⟩
    refine ⟨hw _, ?_⟩
    dsimp only [tYes]
    rw [if_pos rfl]
    refine he m (by omega) H2 (kp1.trans kp) pen2 _ fun t H3 q ht nq k3 pen3 => ?_
    have hD3 : H3 D = some (.lst xs) := k3 _ _ npD hD
    have nDq : D ≠ q := ne_of_none hD3 nq
    have hD4 : upd H3 q (.tup [.int t.1, .int t.2]) D = some (.lst xs) := by
      rw [upd_ne nDq]
      exact hD3
    have t2 : Tp (upd H3 q (.tup [.int t.1, .int t.2])) (upd (upd H3 q (.tup [.int t.1, .int t.2])) D (.lst (xs ++ [.ref q]))) := tp_lst hD4
    refine ⟨xs, hD4, sl_lt (by rw [hP.len]; omega), xs ++ [.ref q], f ++ [t], upd_same, Prs.snoc (Prs.tp ((pen2.tp k3).trans ((tp_new nq).trans t2)) hP) (IsPr.tp t2 isPr_new), by rw [List.length_append, hl]; rfl, fun u hu => ?_, fun x o nx ex => ?_, (pen3.same (same_new nq)).upd npD ncD⟩
    · rcases List.mem_append.mp hu with z | z
      · exact hR u z
      · have e : u = t := by simpa using z
        rw [e]; exact ht
    · rw [upd_ne (ne_of_none ex nD)]
      have e3 := k3 _ _ nx (kp _ _ nx ex)
      rw [upd_ne (ne_of_none e3 nq)]
      exact e3
  · rintro H2 ⟨xs, f, hD, hP, hl, hR, kp, pen2⟩
    refine k D H2 f ⟨D, xs, rfl, SqL.of hD, hP⟩ (by omega) hR (kp1.trans kp) (pen2.mono ?_)
    have : r.toNat ≤ N := by omega
    exact Nat.add_le_add_left (Nat.mul_le_mul_left _ this) _
/-! ### effects that the laws draw -/
/-- canonical, of bounded size -/
structure DrE (q : Int) (g : Pol) (m : Int) (L : Nat) (B : Nat) : Prop where
  nf : Nf q g (cf g)
  len : g.length ≤ L
  abs : ∀ t ∈ g, t.1.natAbs ≤ B
  sh : m.natAbs ≤ B
def sp__law_wide : Sp := fun vs H Q _ => ∃ (p c : Addr) (most : Int) (n : Nat), vs = [.ref p, .int most] ∧ 0 ≤ most ∧ most.natAbs < 10 ^ 90 ∧ PenAt H p c n ∧ n + 7 < 2 ^ 40 ∧ ∀ r H', r.natAbs ≤ most.natAbs + 8 → Kp p H H' → PenAt H' p c (n + 7) → Q (.int r) H'
def sp__law_wide_effect (K : PySem.W.Frag) : Sp := fun vs H Q _ => ∃ (p c : Addr) (q terms most : Int) (n : Nat), vs = [.ref p, .int q, .int terms, .int most] ∧ 2 ≤ q ∧ q ≤ 97 ∧ 0 ≤ terms ∧ terms ≤ 100 ∧ 0 ≤ most ∧ most.natAbs < 10 ^ 80 ∧ PenAt H p c n ∧ n < 2 ^ 38 ∧
  ∀ v H' g sh, Kp p H H' → PenAt H' p c (n + 8 * terms.toNat + 10) → TEff K H' v g sh → DrE q g sh terms.toNat (most.natAbs + 8) → Q v H'
def sp__law_long_effect (K : PySem.W.Frag) : Sp := fun vs H Q _ => ∃ (p c : Addr) (q many : Int) (n : Nat), vs = [.ref p, .int q, .int many] ∧ 2 ≤ q ∧ q ≤ 97 ∧ 0 ≤ many ∧ many ≤ 1000 ∧ PenAt H p c n ∧ n < 2 ^ 38 ∧
  ∀ v H' g sh, Kp p H H' → PenAt H' p c (n + 5) → TEff K H' v g sh → DrE q g sh many.toNat 4000 → Q v H'
def sp__law_any_effect (K : PySem.W.Frag) : Sp := fun vs H Q _ => ∃ (p c : Addr) (q most many : Int) (n : Nat), vs = [.ref p, .int q, .int most, .int many] ∧ 2 ≤ q ∧ q ≤ 97 ∧ 0 ≤ most ∧ most.natAbs < 10 ^ 80 ∧ 0 ≤ many ∧ many ≤ 1000 ∧ PenAt H p c n ∧ n < 2 ^ 37 ∧
  ∀ v H' g sh, Kp p H H' → PenAt H' p c (n + 60) → TEff K H' v g sh → DrE q g sh 1000 (most.natAbs + 4000) → Q v H'
end DR
namespace DR
open PySem PySem.Spec PyProof.Rows L2
def topS (i : Nat) : Stmt := PySem.Challenge.pw_dialroad_k49_lengths_by_the_formula.main.body.getD i (.Pass ⟨0, 0, 0, 0⟩)
abbrev s_fewest_turns : Stmt := topS 1
abbrev s_reach : Stmt := topS 2
abbrev s_length : Stmt := topS 3
abbrev s__law_pen : Stmt := topS 5
abbrev s__law_draw : Stmt := topS 6
abbrev s__law_pick : Stmt := topS 7
abbrev s__law_prime : Stmt := topS 8
abbrev s__law_integer : Stmt := topS 9
abbrev s__law_normal : Stmt := topS 10
abbrev s__law_polynomial : Stmt := topS 11
abbrev s__law_effect : Stmt := topS 12
abbrev s__law_wide : Stmt := topS 13
abbrev s__law_wide_effect : Stmt := topS 14
abbrev s__law_long_effect : Stmt := topS 15
abbrev s__law_any_effect : Stmt := topS 16
abbrev s__law_cost : Stmt := topS 17
abbrev s__law_ends : Stmt := topS 18
abbrev s__law_size : Stmt := topS 19
abbrev s_law : Stmt := topS 20
/-- the built-in names that the texts use are still the built-in ones -/
structure Blt (mg : Str → Option Value) : Prop where
  tuple : mg "tuple" = none
  sorted : mg "sorted" = none
  range : mg "range" = none
  list : mg "list" = none
  len : mg "len" = none
  abs : mg "abs" = none
  repr : mg "repr" = none
  int : mg "int" = none
  bool : mg "bool" = none
  dict : mg "dict" = none
  min : mg "min" = none
  max : mg "max" = none
  zip : mg "zip" = none
  all : mg "all" = none
  isinstance : mg "isinstance" = none
  sum : mg "sum" = none
  any : mg "any" = none
  str : mg "str" = none
  set : mg "set" = none
section
variable {P : Program} {w : World} {K : PySem.W.Frag} {mg : Str → Option Value} {base : Heap}
theorem sc_fewest_turns : FnScope ["prime", "value"] ["prime", "value"] (defScope s_fewest_turns) := ⟨rfl, rfl, rfl, by decide +kernel, rfl, by decide +kernel, by decide +kernel⟩
theorem ok_fewest_turns {f : Addr} {fd : FuncData} (F : Fun K "fewest_turns" "fewest_turns" s_fewest_turns f fd) (B : Blt mg) : FnOk P w K mg base CX0 1 f fd ["prime", "value"] sp_fewest_turns := by
  refine F.ok sc_fewest_turns (fun vs H Q E h => ?_) (fun cdv A outer s H vs Q E hr h => ?_)
  · obtain ⟨p, v, rfl, _⟩ := h
    rfl
  · obtain ⟨p, v, rfl, k⟩ := h
    refine ⟨_, (pss_one (ps_ret (pe_callB (call_min2 rfl) (by rfl) B.min (by decide +kernel) (pa_cons (pv 1) (pa_cons (pe_op op_sub (pv 0) (pv 1)) pa_nil))))), ?_⟩
    exact ⟨_, rfl, _, rfl, _, rfl, p, v, rfl, rfl, v, p - v, rfl, k⟩
theorem sc_reach : FnScope ["effect", "polynomial", "shift", "places", "exponent", "coefficient"] ["effect"] (defScope s_reach) := ⟨rfl, rfl, rfl, by decide +kernel, rfl, by decide +kernel, by decide +kernel⟩
theorem ok_reach {f : Addr} {fd : FuncData} (F : Fun K "reach" "reach" s_reach f fd) (B : Blt mg) : FnOk P w K mg base CX0 1 f fd ["effect"] (sp_reach K) := by
  refine F.ok sc_reach (fun vs H Q E h => ?_) (fun cdv A outer s H vs Q E hr h => ?_)
  · obtain ⟨v, g, m, rfl, _⟩ := h
    rfl
  · obtain ⟨v, g, m, rfl, ⟨a, x, rfl, hs, b, xs, rfl, hb, hP⟩, hl, k⟩ := h
    have nd := sc_reach.nd
    refine ⟨_, (pss_cons (ps_asg (pv 0) (pg_tup rfl (pgs_cons (pg_name (i := 1) nd rfl (.inl rfl)) (pgs_cons (pg_name (i := 2) nd rfl (.inl rfl)) pgs_nil))))
    (pss_cons (ps_set (i := 3) nd rfl (.inl rfl) (pe_op op_cat (pe_lst (pa_cons pe_int (pa_cons (pv 2) pa_nil))) (pe_lc (own := [("exponent", 4), ("coefficient", 5)]) (g := gTup K 2 (gCons (gName 4) (gCons (gName 5) gNil))) (by rfl) nd (pi_tup (pv 1)) (blkOk_by (N := ["effect", "polynomial", "shift", "places", "exponent", "coefficient"]) (sc := defScope s_reach) (own := [("exponent", 4), ("coefficient", 5)]) (by decide +kernel)) (fun _ _ _ _ _ => (pg_tup rfl (pgs_cons (pg_name (i := 4) nd rfl (.inl rfl) (.inr rfl)) (pgs_cons (pg_name (i := 5) nd rfl (.inl rfl) (.inr rfl)) pgs_nil)))) (fun _ _ _ _ _ => pts_nil) (fun _ _ _ _ _ => (pv 4)))))
    (pss_one (ps_ret (pe_tup (pa_cons (pe_callB (cr_min rfl) (by rfl) B.min (by decide +kernel) (pa_cons (pv 3) pa_nil)) (pa_cons (pe_callB (cr_max rfl) (by rfl) B.max (by decide +kernel) (pa_cons (pv 3) pa_nil)) pa_nil))))))), ?_⟩
    refine ⟨_, rfl, a, _, rfl, hs, rfl, _, _, rfl, _, _, rfl, rfl, ?_⟩
    refine ⟨_, rfl, sl_of (show 2 ≤ 1000000 by decide), fun l nl => ?_⟩
    have s1 := same_new nl (o := HO.lst [V.int 0, V.int m])
    refine lcTi (K := K) (·.1) (fun R r => ⟨_, rfl, r⟩) (same_t s1 hb) (Prs.tp (Same.tp s1) hP) hl (fun _ _ => rfl) (fun t _ H2 _ R r => ⟨_, rfl, r⟩) fun D H2 nD s2 hD => ?_
    refine ⟨l, D, _, _, rfl, rfl, s2 _ _ upd_same, hD, sl_of (show 2 + ((g.map (·.1)).map V.int).length ≤ 1000000 by rw [List.length_map, List.length_map]; omega), fun q nq => ?_⟩
    have hq : ∀ {H3 : Hp}, Same (upd H2 q (.lst ([V.int 0, V.int m] ++ (g.map (·.1)).map V.int))) H3 → SqL K H3 q ((0 :: places g m).map V.int) := fun s3 => SqL.of (s3 _ _ (show upd H2 q (.lst ((0 :: places g m).map V.int)) q = _ from upd_same))
    refine ⟨_, rfl, q, 0 :: places g m, rfl, hq (Same.refl _), Nat.succ_pos _, fun z hz hz2 => ?_⟩
    refine ⟨_, rfl, q, 0 :: places g m, rfl, hq (Same.refl _), Nat.succ_pos _, fun y hy hy2 => ?_⟩
    rw [loL_eq hz hz2, hiL_eq hy hy2]
    exact ⟨sl_of (show 2 ≤ 1000000 by decide), fun t nt => k t _ (s1.trans (s2.trans ((same_new nq).trans (same_new nt)))) (SqT.of upd_same)⟩
theorem sc_length : FnScope ["prime", "effect", "polynomial", "shift", "least", "greatest", "turns", "exponent", "coefficient"] ["prime", "effect"] (defScope s_length) := ⟨rfl, rfl, rfl, by decide +kernel, rfl, by decide +kernel, by decide +kernel⟩
theorem ok_length {f : Addr} {fd : FuncData} (F : Fun K "length" "length" s_length f fd) (B : Blt mg) (C_fewest_turns : Cal P w K mg base 1 "fewest_turns" sp_fewest_turns) (C_reach : Cal P w K mg base 1 "reach" (sp_reach K)) : FnOk P w K mg base CX0 2 f fd ["prime", "effect"] (sp_length K) := by
  refine F.ok sc_length (fun vs H Q E h => ?_) (fun cdv A outer s H vs Q E hr h => ?_)
  · obtain ⟨p, v, g, m, rfl, _⟩ := h
    rfl
  · obtain ⟨p, v, g, m, rfl, hE, hl, k⟩ := h
    obtain ⟨a, x, rfl, hs, b, xs, rfl, hb, hP⟩ := id hE
    have nd := sc_length.nd
    refine ⟨_, (pss_cons (ps_asg (pv 1) (pg_tup rfl (pgs_cons (pg_name (i := 2) nd rfl (.inl rfl)) (pgs_cons (pg_name (i := 3) nd rfl (.inl rfl)) pgs_nil))))
    (pss_cons (ps_asg (pe_c C_reach hr (by decide) (by rfl) (pa_cons (pv 1) pa_nil)) (pg_tup rfl (pgs_cons (pg_name (i := 4) nd rfl (.inl rfl)) (pgs_cons (pg_name (i := 5) nd rfl (.inl rfl)) pgs_nil))))
    (pss_cons (ps_set (i := 6) nd rfl (.inl rfl) (pe_callB (cr_sum rfl) (by rfl) B.sum (by decide +kernel) (pa_cons (pe_lc (own := [("exponent", 7), ("coefficient", 8)]) (g := gTup K 2 (gCons (gName 7) (gCons (gName 8) gNil))) (by rfl) nd (pi_tup (pv 2)) (blkOk_by (N := ["prime", "effect", "polynomial", "shift", "least", "greatest", "turns", "exponent", "coefficient"]) (sc := defScope s_length) (own := [("exponent", 7), ("coefficient", 8)]) (by decide +kernel)) (fun _ _ _ _ _ => (pg_tup rfl (pgs_cons (pg_name (i := 7) nd rfl (.inl rfl) (.inr rfl)) (pgs_cons (pg_name (i := 8) nd rfl (.inl rfl) (.inr rfl)) pgs_nil)))) (fun _ _ _ _ _ => pts_nil) (fun _ _ _ _ _ => (pe_c C_fewest_turns hr (by decide) (by rfl) (pa_cons (pv 0) (pa_cons (pv 8) pa_nil))))) pa_nil)))
    (pss_one (ps_ret (pe_op op_add (pe_op op_sub (pe_op op_mul pe_int (pe_op op_sub (pv 5) (pv 4))) (pe_callB call_abs (by rfl) B.abs (by decide +kernel) (pa_cons (pv 3) pa_nil))) (pv 6))))))), ?_⟩
    refine ⟨_, rfl, a, _, rfl, hs, rfl, _, _, rfl, _, _, rfl, rfl, ?_⟩
    refine ⟨_, rfl, _, g, m, rfl, hE, hl, fun t H1 s1 ht => ?_⟩
    refine ⟨t, _, rfl, ht, rfl, _, _, rfl, _, _, rfl, rfl, ?_⟩
    dsimp only [tNext, tSeq, tAsg, tCB, tCons, tNil]
    refine lcTi (K := K) (fun u => ft p u.2) (fun R r => ⟨_, rfl, r⟩) (same_t s1 hb) (Prs.tp (Same.tp s1) hP) hl (fun _ _ => rfl) (fun u _ H2 _ R r => ⟨_, rfl, _, rfl, p, u.2, rfl, r⟩) fun D H2 nD s2 hD => ?_
    refine ⟨D, g.map (fun u => ft p u.2), rfl, SqL.of hD, ?_⟩
    exact ⟨_, rfl, _, rfl, _, _, rfl, rfl, 2, _, rfl, rfl, .inl ⟨by decide, by decide⟩, _, rfl, _, rfl, _, _, rfl, rfl, _, rfl, _, _, rfl, rfl, k H2 (s1.trans s2)⟩
theorem sc__law_pen : FnScope ["_law_script"] ["_law_script"] (defScope s__law_pen) := ⟨rfl, rfl, rfl, by decide +kernel, rfl, by decide +kernel, by decide +kernel⟩
theorem ok__law_pen {f : Addr} {fd : FuncData} (F : Fun K "_law_pen" "_law_pen" s__law_pen f fd) (B : Blt mg) : FnOk P w K mg base CX0 1 f fd ["_law_script"] (sp__law_pen K) := by
  refine F.ok sc__law_pen (fun vs H Q E h => ?_) (fun cdv A outer s H vs Q E hr h => ?_)
  · obtain ⟨a, ns, rfl, _⟩ := h
    rfl
  · obtain ⟨a, ns, rfl, hS, k⟩ := h
    have nd := sc__law_pen.nd
    refine ⟨_, (pss_one (ps_ret (pe_disp (pps_cons pe_str (pe_callTy call_list_of (by rfl) B.list (by decide +kernel) (pa_cons (pe_slice sl_list (pv 0) po_none (po_some pe_int)) pa_nil)) (pps_cons pe_str pe_int (pps_cons pe_str pe_int pps_nil))) (by rfl) (by rfl) (fun z => by cases z) (by decide)))), ?_⟩
    intro p np
    have s1 : Same H (upd H p (.dK [])) := same_new np
    refine ⟨_, rfl, 63, rfl, a, _, rfl, s1.seq hS, fun q nq => ?_⟩
    have nqp : p ≠ q := ne_of_none upd_same nq
    refine ⟨q, _, rfl, .inl (SqL.of upd_same), fun c nc => ?_⟩
    have npc : p ≠ c := ne_of_none (show upd (upd H p (.dK [])) q _ p = some (.dK []) by rw [upd_ne nqp, upd_same]) nc
    have s2 : Same H (upd (upd H p (.dK [])) q (.lst (cutV (ns.map V.int) none (some 63)))) := s1.trans (same_new nq)
    refine ⟨?_, penKv c 0 0, rfl, by show 3 ≤ 15; decide, ?_⟩
    · rw [upd_ne npc, upd_ne nqp, upd_same]
    · rw [pen_merge]
      obtain ⟨ms, hms⟩ : ∃ ms : List Int, cutV (ns.map V.int) none (some 63) = ms.map V.int := by
        unfold cutV
        rw [← List.map_drop, ← List.map_take]
        exact ⟨_, rfl⟩
      refine k p c _ np (same_mut (s2.trans (same_new nc)) np) ⟨ms, 0, 0, upd_same, ?_, by omega, by omega⟩
      rw [upd_ne npc.symm, upd_same, hms]
theorem sc__law_draw : FnScope ["_law_pen_here", "_law_many", "_law_digit", "_law_used", "_law_cell", "_law_blend"] ["_law_pen_here", "_law_many"] (defScope s__law_draw) := ⟨rfl, rfl, rfl, by decide +kernel, rfl, by decide +kernel, by decide +kernel⟩
theorem ints_shaped (ns : List Int) : SeqAt.shaped (.list (ns.map PyData.int)) = true := by
  have : PyData.canLayAll0 (ns.map PyData.int) = true ∧ PyData.depthAll (ns.map PyData.int) = 0 := by
    induction ns with
    | nil => exact ⟨rfl, rfl⟩
    | cons n r ih =>
      refine ⟨?_, ?_⟩
      · show (true && PyData.canLayAll0 (r.map PyData.int)) = true
        rw [ih.1]
        rfl
      · show max 0 (PyData.depthAll (r.map PyData.int)) = 0
        rw [ih.2]
        rfl
  show (PyData.canLayAll0 (ns.map PyData.int) && decide (PyData.depthAll (ns.map PyData.int) + 1 ≤ 64)) = true
  rw [this.1, this.2]
  rfl
theorem ints_dpAll {H : Hp} : ∀ ns : List Int, DpAll K H (ns.map V.int) (ns.map PyData.int)
  | [] => .nil
  | n :: r => .cons (.int n) (ints_dpAll r)
theorem dg_left {H : Hp} {p c : Addr} {u l : Int} (h : H p = some (.dK (penKv c u l))) : DGet H p (.str "left") (some (.int l)) := by
  have := DGet.k (k := (Sum.inr ("left" : Str) : Key)) h
  rw [pen_left] at this
  exact this
theorem dg_used {H : Hp} {p c : Addr} {u l : Int} (h : H p = some (.dK (penKv c u l))) : DGet H p (.str "used") (some (.int u)) := by
  have := DGet.k (k := (Sum.inr ("used" : Str) : Key)) h
  rw [pen_used] at this
  exact this
theorem dg_cells {H : Hp} {p c : Addr} {u l : Int} (h : H p = some (.dK (penKv c u l))) : DGet H p (.str "cells") (some (.ref c)) := by
  have := DGet.k (k := (Sum.inr ("cells" : Str) : Key)) h
  rw [pen_cells] at this
  exact this
theorem dp_left {H : Hp} {p c : Addr} {u l : Int} (x : Int) (h : H p = some (.dK (penKv c u l))) : DPut H p (.str "left") (.int x) (upd H p (.dK (penKv c u x))) := by
  have := DPut.k (k := (Sum.inr ("left" : Str) : Key)) (v := .int x) h (sl_lt (show 3 ≤ 1000000 by decide))
  rw [pen_setL] at this
  exact this
theorem dp_used {H : Hp} {p c : Addr} {u l : Int} (x : Int) (h : H p = some (.dK (penKv c u l))) : DPut H p (.str "used") (.int x) (upd H p (.dK (penKv c x l))) := by
  have := DPut.k (k := (Sum.inr ("used" : Str) : Key)) (v := .int x) h (sl_lt (show 3 ≤ 1000000 by decide))
  rw [pen_setU] at this
  exact this
theorem atI_mod {ns : List Int} (u : Int) (h : 0 < ns.length) : ∃ z, atI (ns.map V.int) (u % ((ns.map V.int).length : Int)) = some (.int z) := by
  rw [List.length_map]
  have h1 := Int.emod_nonneg u (show (ns.length : Int) ≠ 0 by omega)
  have h2 := Int.emod_lt_of_pos u (show (0 : Int) < (ns.length : Int) by omega)
  obtain ⟨j, hj⟩ : ∃ j : Nat, u % (ns.length : Int) = (j : Int) := ⟨(u % (ns.length : Int)).toNat, by omega⟩
  rw [hj]
  have hlt : j < ns.length := by omega
  refine ⟨ns[j], atI_nat ?_⟩
  rw [List.getElem?_map, List.getElem?_eq_getElem hlt]
  rfl
theorem cm_197 (x j : Int) : CMul (x % 4294967197) j := .inl ⟨by have := Int.emod_nonneg x (show (4294967197 : Int) ≠ 0 by decide); omega, by have := Int.emod_lt_of_pos x (show (0 : Int) < 4294967197 by decide); omega⟩
theorem cm_189 (x j : Int) : CMul (x % 4294967189) j := .inl ⟨by have := Int.emod_nonneg x (show (4294967189 : Int) ≠ 0 by decide); omega, by have := Int.emod_lt_of_pos x (show (0 : Int) < 4294967189 by decide); omega⟩
theorem ok__law_draw {f : Addr} {fd : FuncData} (F : Fun K "_law_draw" "_law_draw" s__law_draw f fd) (B : Blt mg) : FnOk P w K mg base CX0 1 f fd ["_law_pen_here", "_law_many"] sp__law_draw := by
  refine F.ok sc__law_draw (fun vs H Q E h => ?_) (fun cdv A outer s H vs Q E hr h => ?_)
  · obtain ⟨p, c, many, n, rfl, _⟩ := h
    rfl
  · obtain ⟨p, c, many, n, rfl, hm, hm2, ⟨ns, u, l, h1, h2, hu0, hun⟩, hn, k⟩ := h
    have hu := hu_of hr
    have hu2 := hr.units
    have nd := sc__law_draw.nd
    have npc : p ≠ c := ne_of h1 h2 (by intro z; cases z)
    refine ⟨_, (pss_cons (ps_if (pt_cmpR op_gt (pe_dget hu (pv 0) pe_str (fun _ _ => rfl)) pe_int (nomark _))
      (pss_cons (ps_set (i := 2) nd rfl (.inl rfl) (pe_op op_mod (pe_dget hu (pv 0) pe_str (fun _ _ => rfl)) (pv 1)))
    (pss_cons (ps_dput hu (pv 0) pe_str (pe_op op_fdivW (pe_dget hu (pv 0) pe_str (fun _ _ => rfl)) (pv 1)) rfl)
    (pss_one (ps_ret (pv 2)))))
      pss_nil)
    (pss_cons (ps_set (i := 3) nd rfl (.inl rfl) (pe_dget hu (pv 0) pe_str (fun _ _ => rfl)))
    (pss_cons (ps_dput hu (pv 0) pe_str (pe_op op_add (pv 3) pe_int) rfl)
    (pss_cons (ps_set (i := 4) nd rfl (.inl rfl) (pe_op op_add (pe_op op_mul pe_int (pv 3)) pe_int))
    (pss_cons (ps_if (pt_cmpR (op_neD hu2) (pe_dget hu (pv 0) pe_str (fun _ _ => rfl)) (pe_lst pa_nil) (nomark _))
      (pss_one (ps_set (i := 4) nd rfl (.inl rfl) (pe_ix ix_list (pe_dget hu (pv 0) pe_str (fun _ _ => rfl)) (pe_op op_mod (pv 3) (pe_callB call_len_seq (by rfl) B.len (by decide +kernel) (pa_cons (pe_dget hu (pv 0) pe_str (fun _ _ => rfl)) pa_nil))) (fun _ _ => rfl))))
      pss_nil)
    (pss_cons (ps_if (PW.pt (pw_and (pt_cmpR op_lt (pv 3) (pe_callB call_len_seq (by rfl) B.len (by decide +kernel) (pa_cons (pe_dget hu (pv 0) pe_str (fun _ _ => rfl)) pa_nil)) (nomark _)) (pw_and1 (pt_cmpR op_ge (pe_callB call_abs (by rfl) B.abs (by decide +kernel) (pa_cons (pv 4) pa_nil)) (pe_op op_pow pe_int pe_int) (nomark _)))))
      (pss_cons (ps_dput hu (pv 0) pe_str (pe_op op_fdivW (pe_op op_sub (pe_callB call_abs (by rfl) B.abs (by decide +kernel) (pa_cons (pv 4) pa_nil)) (pe_op op_pow pe_int pe_int)) (pv 1)) rfl)
    (pss_one (ps_ret (pe_op op_mod (pe_op op_sub (pe_callB call_abs (by rfl) B.abs (by decide +kernel) (pa_cons (pv 4) pa_nil)) (pe_op op_pow pe_int pe_int)) (pv 1)))))
      pss_nil)
    (pss_cons (ps_set (i := 5) nd rfl (.inl rfl) (pe_op op_add (pe_op op_mul (pe_op op_mod (pv 4) pe_int) pe_int) (pe_op op_mul (pe_op op_mul pe_int (pv 3)) (pv 3))))
    (pss_cons (ps_set (i := 5) nd rfl (.inl rfl) (pe_op op_mod (pe_op op_add (pe_op op_add (pv 5) (pe_op op_mul pe_int (pv 3))) pe_int) pe_int))
    (pss_cons (ps_set (i := 5) nd rfl (.inl rfl) (pe_op op_mod (pe_op op_add (pe_op op_add (pe_op op_add (pe_op op_mul (pv 5) (pv 5)) (pe_op op_mul pe_int (pv 5))) (pe_op op_mul pe_int (pv 3))) pe_int) pe_int))
    (pss_one (ps_ret (pe_op op_mod (pe_op op_fdiv (pe_op op_mod (pe_op op_mul (pv 5) (pe_op op_add (pv 5) pe_int)) pe_int) pe_int) (pv 1))))))))))))), ?_⟩
    have wd : ∀ i : Int, CDivW i many := fun i => wide_div hm hm2 (by decide) (by decide)
    have rng : ∀ i : Int, 0 ≤ i % many ∧ i % many < many := fun i => ⟨Int.emod_nonneg i (by omega), Int.emod_lt_of_pos i hm⟩
    refine ⟨_, rfl, p, _, rfl, dg_left h1, _, _, rfl, rfl, _, rfl, ?_⟩
    refine ite2 (fun _ => ?_) (fun _ => ?_)
    · refine ⟨_, rfl, p, _, rfl, dg_left h1, _, rfl, l, many, rfl, rfl, hm, ?_⟩
      refine ⟨_, rfl, p, _, rfl, dg_left h1, _, rfl, l, many, rfl, rfl, wd _, _, rfl, p, _, rfl, dp_left _ h1, _, rfl, ?_⟩
      exact k _ _ (rng l).1 (rng l).2 (Kp.refl p H).upd ⟨ns, u, _, upd_same, by rw [upd_ne npc.symm]; exact h2, hu0, by omega⟩
    · have g1 : upd H p (.dK (penKv c (u + 1) l)) p = some (.dK (penKv c (u + 1) l)) := upd_same
      have g2 : upd H p (.dK (penKv c (u + 1) l)) c = some (.lst (ns.map V.int)) := by
        rw [upd_ne npc.symm]
        exact h2
      refine ⟨_, rfl, p, _, rfl, dg_used h1, _, rfl, u, 1, rfl, rfl, _, rfl, p, _, rfl, dp_used (u + 1) h1, ?_⟩
      refine ⟨_, rfl, 29, u, rfl, rfl, .inl ⟨by decide, by decide⟩, _, 11, rfl, rfl, ?_⟩
      refine ⟨_, rfl, p, _, rfl, dg_cells g1, Nat.zero_le _, fun q nq => ?_⟩
      have e1 : upd (upd H p (.dK (penKv c (u + 1) l))) q (.lst []) p = some (.dK (penKv c (u + 1) l)) := by
        rw [upd_ne (ne_of_none g1 nq)]
        exact g1
      have e2 : upd (upd H p (.dK (penKv c (u + 1) l))) q (.lst []) c = some (.lst (ns.map V.int)) := by
        rw [upd_ne (ne_of_none g2 nq)]
        exact g2
      have kq : Kp p H (upd (upd H p (.dK (penKv c (u + 1) l))) q (.lst [])) := (Kp.refl p H).upd.trans (Same.kp (same_new nq))
      have e3 : upd (upd H p (.dK (penKv c (u + 1) l))) q (.lst []) q = some (.lst []) := upd_same
      generalize upd (upd H p (.dK (penKv c (u + 1) l))) q (.lst []) = H1 at e1 e2 e3 kq ⊢
      have hpos : (!PyData.eqv (.list (ns.map PyData.int)) (.list [])) = true → 0 < ns.length := by
        cases ns with
        | nil => exact fun z => absurd z (by decide)
        | cons _ _ => exact fun _ => Nat.succ_pos _
      refine ⟨.list (ns.map PyData.int), .list [], .lst (SqL.of e2) (ints_dpAll ns), .lst (SqL.of e3) .nil, ints_shaped ns, ints_shaped [], _, rfl, ?_⟩
      refine ite2 (fun z => ?_) (fun _ => ?_)
      · obtain ⟨v, hv⟩ := atI_mod u (hpos z)
        refine ⟨_, rfl, p, _, rfl, dg_cells e1, _, rfl, _, rfl, p, _, rfl, dg_cells e1, c, _, rfl, .inl (SqL.of e2), u, _, rfl, rfl, (by rw [List.length_map]; have := hpos z; omega), c, _, _, _, rfl, rfl, SqL.of e2, hv, ?_⟩
        generalize v = cell
        refine ⟨_, rfl, _, rfl, p, _, rfl, dg_cells e1, c, _, rfl, .inl (SqL.of e2), u, _, rfl, rfl, _, rfl, ?_⟩
        refine ite2 (fun _ => ?_) (fun _ => ?_)
        · refine ⟨_, rfl, cell, rfl, 10, 18, rfl, rfl, ⟨by decide, by decide, by decide⟩, _, _, rfl, rfl, _, rfl, ?_⟩
          refine ite2 (fun _ => ?_) (fun _ => ?_)
          · refine ⟨_, rfl, cell, rfl, 10, 18, rfl, rfl, ⟨by decide, by decide, by decide⟩, _, _, rfl, rfl, _, rfl, _, many, rfl, rfl, wd _, _, rfl, p, _, rfl, dp_left _ e1, ?_⟩
            refine ⟨_, rfl, cell, rfl, 10, 18, rfl, rfl, ⟨by decide, by decide, by decide⟩, _, _, rfl, rfl, _, rfl, _, many, rfl, rfl, hm, ?_⟩
            exact k _ _ (rng _).1 (rng _).2 kq.upd ⟨ns, u + 1, _, upd_same, by rw [upd_ne npc.symm]; exact e2, by omega, by omega⟩
          · refine ⟨_, rfl, cell, 4294967231, rfl, rfl, (show (0 : Int) < 4294967231 by decide), _, 1664525, rfl, rfl, .inr ⟨by decide, by decide⟩, _, rfl, 24593, u, rfl, rfl, .inl ⟨by decide, by decide⟩, _, rfl, 24593 * u, u, rfl, rfl, .inr ⟨by omega, by omega⟩, _, _, rfl, rfl, ?_⟩
            refine ⟨_, rfl, _, rfl, 196613, u, rfl, rfl, .inl ⟨by decide, by decide⟩, _, _, rfl, rfl, _, 19, rfl, rfl, _, _, rfl, rfl, (show (0 : Int) < 4294967197 by decide), ?_⟩
            refine ⟨_, rfl, _, rfl, _, _, rfl, rfl, cm_197 _ _, _, rfl, 12582917, _, rfl, rfl, .inl ⟨by decide, by decide⟩, _, _, rfl, rfl, _, rfl, 7, u, rfl, rfl, .inl ⟨by decide, by decide⟩, _, _, rfl, rfl, _, 3, rfl, rfl, _, _, rfl, rfl, (show (0 : Int) < 4294967189 by decide), ?_⟩
            refine ⟨_, rfl, _, rfl, _, 25165843, rfl, rfl, _, _, rfl, rfl, cm_189 _ _, _, _, rfl, rfl, (show (0 : Int) < 4294967291 by decide), _, 64, rfl, rfl, ⟨by decide, by decide⟩, _, rfl, _, many, rfl, rfl, hm, ?_⟩
            exact k _ _ (rng _).1 (rng _).2 kq ⟨ns, u + 1, _, e1, e2, by omega, by omega⟩
        · refine iteF ?_
          refine ⟨_, rfl, cell, 4294967231, rfl, rfl, (show (0 : Int) < 4294967231 by decide), _, 1664525, rfl, rfl, .inr ⟨by decide, by decide⟩, _, rfl, 24593, u, rfl, rfl, .inl ⟨by decide, by decide⟩, _, rfl, 24593 * u, u, rfl, rfl, .inr ⟨by omega, by omega⟩, _, _, rfl, rfl, ?_⟩
          refine ⟨_, rfl, _, rfl, 196613, u, rfl, rfl, .inl ⟨by decide, by decide⟩, _, _, rfl, rfl, _, 19, rfl, rfl, _, _, rfl, rfl, (show (0 : Int) < 4294967197 by decide), ?_⟩
          refine ⟨_, rfl, _, rfl, _, _, rfl, rfl, cm_197 _ _, _, rfl, 12582917, _, rfl, rfl, .inl ⟨by decide, by decide⟩, _, _, rfl, rfl, _, rfl, 7, u, rfl, rfl, .inl ⟨by decide, by decide⟩, _, _, rfl, rfl, _, 3, rfl, rfl, _, _, rfl, rfl, (show (0 : Int) < 4294967189 by decide), ?_⟩
          refine ⟨_, rfl, _, rfl, _, 25165843, rfl, rfl, _, _, rfl, rfl, cm_189 _ _, _, _, rfl, rfl, (show (0 : Int) < 4294967291 by decide), _, 64, rfl, rfl, ⟨by decide, by decide⟩, _, rfl, _, many, rfl, rfl, hm, ?_⟩
          exact k _ _ (rng _).1 (rng _).2 kq ⟨ns, u + 1, _, e1, e2, by omega, by omega⟩
      · refine ⟨_, rfl, _, rfl, p, _, rfl, dg_cells e1, c, _, rfl, .inl (SqL.of e2), u, _, rfl, rfl, _, rfl, ?_⟩
        refine ite2 (fun _ => ?_) (fun _ => ?_)
        · refine ⟨_, rfl, 29 * u + 11, rfl, 10, 18, rfl, rfl, ⟨by decide, by decide, by decide⟩, _, _, rfl, rfl, _, rfl, ?_⟩
          refine ite2 (fun _ => ?_) (fun _ => ?_)
          · refine ⟨_, rfl, 29 * u + 11, rfl, 10, 18, rfl, rfl, ⟨by decide, by decide, by decide⟩, _, _, rfl, rfl, _, rfl, _, many, rfl, rfl, wd _, _, rfl, p, _, rfl, dp_left _ e1, ?_⟩
            refine ⟨_, rfl, 29 * u + 11, rfl, 10, 18, rfl, rfl, ⟨by decide, by decide, by decide⟩, _, _, rfl, rfl, _, rfl, _, many, rfl, rfl, hm, ?_⟩
            exact k _ _ (rng _).1 (rng _).2 kq.upd ⟨ns, u + 1, _, upd_same, by rw [upd_ne npc.symm]; exact e2, by omega, by omega⟩
          · refine ⟨_, rfl, 29 * u + 11, 4294967231, rfl, rfl, (show (0 : Int) < 4294967231 by decide), _, 1664525, rfl, rfl, .inr ⟨by decide, by decide⟩, _, rfl, 24593, u, rfl, rfl, .inl ⟨by decide, by decide⟩, _, rfl, 24593 * u, u, rfl, rfl, .inr ⟨by omega, by omega⟩, _, _, rfl, rfl, ?_⟩
            refine ⟨_, rfl, _, rfl, 196613, u, rfl, rfl, .inl ⟨by decide, by decide⟩, _, _, rfl, rfl, _, 19, rfl, rfl, _, _, rfl, rfl, (show (0 : Int) < 4294967197 by decide), ?_⟩
            refine ⟨_, rfl, _, rfl, _, _, rfl, rfl, cm_197 _ _, _, rfl, 12582917, _, rfl, rfl, .inl ⟨by decide, by decide⟩, _, _, rfl, rfl, _, rfl, 7, u, rfl, rfl, .inl ⟨by decide, by decide⟩, _, _, rfl, rfl, _, 3, rfl, rfl, _, _, rfl, rfl, (show (0 : Int) < 4294967189 by decide), ?_⟩
            refine ⟨_, rfl, _, rfl, _, 25165843, rfl, rfl, _, _, rfl, rfl, cm_189 _ _, _, _, rfl, rfl, (show (0 : Int) < 4294967291 by decide), _, 64, rfl, rfl, ⟨by decide, by decide⟩, _, rfl, _, many, rfl, rfl, hm, ?_⟩
            exact k _ _ (rng _).1 (rng _).2 kq ⟨ns, u + 1, _, e1, e2, by omega, by omega⟩
        · refine iteF ?_
          refine ⟨_, rfl, 29 * u + 11, 4294967231, rfl, rfl, (show (0 : Int) < 4294967231 by decide), _, 1664525, rfl, rfl, .inr ⟨by decide, by decide⟩, _, rfl, 24593, u, rfl, rfl, .inl ⟨by decide, by decide⟩, _, rfl, 24593 * u, u, rfl, rfl, .inr ⟨by omega, by omega⟩, _, _, rfl, rfl, ?_⟩
          refine ⟨_, rfl, _, rfl, 196613, u, rfl, rfl, .inl ⟨by decide, by decide⟩, _, _, rfl, rfl, _, 19, rfl, rfl, _, _, rfl, rfl, (show (0 : Int) < 4294967197 by decide), ?_⟩
          refine ⟨_, rfl, _, rfl, _, _, rfl, rfl, cm_197 _ _, _, rfl, 12582917, _, rfl, rfl, .inl ⟨by decide, by decide⟩, _, _, rfl, rfl, _, rfl, 7, u, rfl, rfl, .inl ⟨by decide, by decide⟩, _, _, rfl, rfl, _, 3, rfl, rfl, _, _, rfl, rfl, (show (0 : Int) < 4294967189 by decide), ?_⟩
          refine ⟨_, rfl, _, rfl, _, 25165843, rfl, rfl, _, _, rfl, rfl, cm_189 _ _, _, _, rfl, rfl, (show (0 : Int) < 4294967291 by decide), _, 64, rfl, rfl, ⟨by decide, by decide⟩, _, rfl, _, many, rfl, rfl, hm, ?_⟩
          exact k _ _ (rng _).1 (rng _).2 kq ⟨ns, u + 1, _, e1, e2, by omega, by omega⟩
theorem sc__law_pick : FnScope ["_law_pen_here", "_law_options"] ["_law_pen_here", "_law_options"] (defScope s__law_pick) := ⟨rfl, rfl, rfl, by decide +kernel, rfl, by decide +kernel, by decide +kernel⟩
theorem ok__law_pick {f : Addr} {fd : FuncData} (F : Fun K "_law_pick" "_law_pick" s__law_pick f fd) (B : Blt mg) (C__law_draw : Cal P w K mg base 1 "_law_draw" sp__law_draw) : FnOk P w K mg base CX0 2 f fd ["_law_pen_here", "_law_options"] sp__law_pick := by
  refine F.ok sc__law_pick (fun vs H Q E h => ?_) (fun cdv A outer s H vs Q E hr h => ?_)
  · obtain ⟨p, c, o, n, xs, rfl, _⟩ := h
    rfl
  · obtain ⟨p, c, o, n, xs, rfl, pen, hn, ho, hx, hx2, k⟩ := h
    have nd := sc__law_pick.nd
    refine ⟨_, (pss_one (ps_ret (pe_ix ix_list (pv 1) (pe_c C__law_draw hr (by decide) (by rfl) (pa_cons (pv 0) (pa_cons (pe_callB call_len_seq (by rfl) B.len (by decide +kernel) (pa_cons (pv 1) pa_nil)) pa_nil))) (fun _ _ => rfl)))), ?_⟩
    have nop : o ≠ p := pen.dict.elim fun _ e => ne_of ho e (by intro z; cases z)
    refine ⟨_, rfl, _, rfl, _, rfl, o, xs, rfl, .inl (SqL.of ho), p, c, (xs.length : Int), n, rfl, by omega, ?_, pen, hn, fun r H1 h0 h9 kp pen1 => ?_⟩
    · exact Nat.lt_of_le_of_lt (show ((xs.length : Int)).natAbs ≤ 100000 by omega) (by decide)
    · obtain ⟨j, rfl⟩ : ∃ j : Nat, r = (j : Int) := ⟨r.toNat, by omega⟩
      have hj : j < xs.length := by omega
      refine ⟨o, xs, (j : Int), xs[j], rfl, rfl, SqL.of (kp _ _ nop ho), atI_nat (List.getElem?_eq_getElem hj), ?_⟩
      exact k _ _ (List.getElem_mem hj) kp pen1
theorem sc__law_prime : FnScope ["_law_pen_here", "_law_found", "_law_larger"] ["_law_pen_here"] (defScope s__law_prime) := ⟨rfl, rfl, rfl, by decide +kernel, rfl, by decide +kernel, by decide +kernel⟩
theorem pick_p1 : ∀ q ∈ ([2, 2, 3, 3, 5, 7, 2, 3, 5, 11, 13, 97] : List Int), q ∈ primes := by decide
theorem pick_p2 : ∀ q ∈ ([13, 17, 19, 23, 29, 31, 37, 41, 43, 47, 53, 59, 61, 67, 71, 73, 79, 83, 89] : List Int), q ∈ primes := by decide
theorem ok__law_prime {f : Addr} {fd : FuncData} (F : Fun K "_law_prime" "_law_prime" s__law_prime f fd) (B : Blt mg) (C__law_pick : Cal P w K mg base 2 "_law_pick" sp__law_pick) : FnOk P w K mg base CX0 3 f fd ["_law_pen_here"] sp__law_prime := by
  refine F.ok sc__law_prime (fun vs H Q E h => ?_) (fun cdv A outer s H vs Q E hr h => ?_)
  · obtain ⟨p, c, n, rfl, _⟩ := h
    rfl
  · obtain ⟨p, c, n, rfl, pen, hn, k⟩ := h
    have nd := sc__law_prime.nd
    refine ⟨_, (pss_cons (ps_set (i := 1) nd rfl (.inl rfl) (pe_c C__law_pick hr (by decide) (by rfl) (pa_cons (pv 0) (pa_cons (pe_lst (pa_cons pe_int (pa_cons pe_int (pa_cons pe_int (pa_cons pe_int (pa_cons pe_int (pa_cons pe_int (pa_cons pe_int (pa_cons pe_int (pa_cons pe_int (pa_cons pe_int (pa_cons pe_int (pa_cons pe_int pa_nil))))))))))))) pa_nil))))
    (pss_cons (ps_set (i := 2) nd rfl (.inl rfl) (pe_lst (pa_cons pe_int (pa_cons pe_int (pa_cons pe_int (pa_cons pe_int (pa_cons pe_int (pa_cons pe_int (pa_cons pe_int (pa_cons pe_int (pa_cons pe_int (pa_cons pe_int (pa_cons pe_int (pa_cons pe_int (pa_cons pe_int (pa_cons pe_int (pa_cons pe_int (pa_cons pe_int (pa_cons pe_int (pa_cons pe_int (pa_cons pe_int pa_nil)))))))))))))))))))))
    (pss_one (ps_ret (pe_ifExp (pt_cmpR op_eq (pv 1) pe_int (nomark _)) (pe_c C__law_pick hr (by decide) (by rfl) (pa_cons (pv 0) (pa_cons (pv 2) pa_nil))) (pv 1)))))), ?_⟩
    refine ⟨_, rfl, sl_of (show 12 ≤ 1000000 by decide), fun o no => ?_⟩
    refine ⟨p, c, o, n, ([2, 2, 3, 3, 5, 7, 2, 3, 5, 11, 13, 97] : List Int).map V.int, rfl, pen.same (same_new no), by omega, upd_same, by decide, by decide, fun v H1 hv kp pen1 => ?_⟩
    obtain ⟨q, hq, rfl⟩ := List.mem_map.mp hv
    refine ⟨sl_of (show 19 ≤ 1000000 by decide), fun o2 no2 => ?_⟩
    have kp2 : Kp p H (upd H1 o2 (.lst (([13, 17, 19, 23, 29, 31, 37, 41, 43, 47, 53, 59, 61, 67, 71, 73, 79, 83, 89] : List Int).map V.int))) := (Same.kp (same_new no)).trans (kp.trans (Same.kp (same_new no2)))
    refine ⟨_, rfl, rfl, _, rfl, ?_⟩
    refine ite2 (fun _ => ?_) (fun _ => ?_)
    · refine ⟨_, rfl, _, rfl, p, c, o2, n + 1, ([13, 17, 19, 23, 29, 31, 37, 41, 43, 47, 53, 59, 61, 67, 71, 73, 79, 83, 89] : List Int).map V.int, rfl, pen1.same (same_new no2), by omega, upd_same, by decide, by decide, fun v H2 hv2 kp3 pen2 => ?_⟩
      obtain ⟨q2, hq2, rfl⟩ := List.mem_map.mp hv2
      exact k _ _ (pick_p2 _ hq2) (kp2.trans kp3) pen2
    · exact ⟨_, rfl, k _ _ (pick_p1 _ hq) kp2 ((pen1.same (same_new no2)).mono (by omega))⟩
theorem sc__law_integer : FnScope ["_law_pen_here", "_law_most"] ["_law_pen_here", "_law_most"] (defScope s__law_integer) := ⟨rfl, rfl, rfl, by decide +kernel, rfl, by decide +kernel, by decide +kernel⟩
theorem ten90 {m : Int} (h0 : 0 ≤ m) (h : m.natAbs < 10 ^ 90) : (2 * m + 1).natAbs < 2 ^ 400 := by
  have e : (2 * m + 1).natAbs = 2 * m.natAbs + 1 := by omega
  have h2 : 2 * 10 ^ 90 + 1 < 2 ^ 400 := by decide +kernel
  rw [e]
  omega
theorem ok__law_integer {f : Addr} {fd : FuncData} (F : Fun K "_law_integer" "_law_integer" s__law_integer f fd) (B : Blt mg) (C__law_draw : Cal P w K mg base 1 "_law_draw" sp__law_draw) : FnOk P w K mg base CX0 2 f fd ["_law_pen_here", "_law_most"] sp__law_integer := by
  refine F.ok sc__law_integer (fun vs H Q E h => ?_) (fun cdv A outer s H vs Q E hr h => ?_)
  · obtain ⟨p, c, m, n, rfl, _⟩ := h
    rfl
  · obtain ⟨p, c, m, n, rfl, hm, hm2, pen, hn, k⟩ := h
    have nd := sc__law_integer.nd
    refine ⟨_, (pss_one (ps_ret (pe_op op_sub (pe_c C__law_draw hr (by decide) (by rfl) (pa_cons (pv 0) (pa_cons (pe_op op_add (pe_op op_mul pe_int (pv 1)) pe_int) pa_nil))) (pv 1)))), ?_⟩
    refine ⟨_, rfl, _, rfl, 2, m, rfl, rfl, .inl ⟨by decide, by decide⟩, _, 1, rfl, rfl, p, c, 2 * m + 1, n, rfl, by omega, ten90 hm hm2, pen, hn, fun r H1 h0 h9 kp pen1 => ?_⟩
    exact ⟨_, rfl, r, m, rfl, rfl, k _ _ (by omega) kp pen1⟩
theorem sc__law_normal : FnScope ["_law_base_prime", "_law_pairs", "_law_terms", "_law_exponent", "_law_coefficient", "_law_kept"] ["_law_base_prime", "_law_pairs"] (defScope s__law_normal) := ⟨rfl, rfl, rfl, by decide +kernel, rfl, by decide +kernel, by decide +kernel⟩
theorem ok__law_normal {f : Addr} {fd : FuncData} (F : Fun K "_law_normal" "_law_normal" s__law_normal f fd) (B : Blt mg) : FnOk P w K mg base CX0 1 f fd ["_law_base_prime", "_law_pairs"] (sp_normalize K) := by
  refine F.ok sc__law_normal (fun vs H Q E h => ?_) (fun cdv A outer s H vs Q E hr h => ?_)
  · obtain ⟨p, v, ps, rfl, _⟩ := h
    rfl
  · obtain ⟨p, v, ps, rfl, hp, hv, hl, k⟩ := h
    have hu := hu_of hr
    have nd := sc__law_normal.nd
    rcases hv with ⟨a, xs, rfl, hs, hP⟩ | ⟨a, xs, rfl, hs, hP⟩
    · refine ⟨_, (pss_cons (ps_set (i := 2) nd rfl (.inr rfl) pe_dnewK)
        (pss_cons (ps_for PassesOwn.never rfl (pi_tup (pv 1)) (pg_tup rfl (pgs_cons (pg_name (i := 3) nd rfl (.inl rfl)) (pgs_cons (pg_name (i := 4) nd rfl (.inl rfl)) pgs_nil)))
          (pss_one (ps_dput hu (pv 2) (pv 3) (pe_op op_mod (pe_op op_add (pe_dget2 hu (pv 2) (pv 3) pe_int ⟨rfl, rfl, rfl, rfl⟩) (pv 4)) (pv 0)) rfl)))
        (pss_cons (ps_setLc (i := 5) (own := [("_law_exponent", 3)]) (by rfl) nd rfl rfl (sw_true rfl rfl rfl (by decide +kernel)) (pi_list (pe_callB (call_sortedDA rfl) (by rfl) B.sorted (by decide +kernel) (pa_cons (pv 2) pa_nil))) (blkOk_by (N := ["_law_base_prime", "_law_pairs", "_law_terms", "_law_exponent", "_law_coefficient", "_law_kept"]) (sc := defScope s__law_normal) (own := [("_law_exponent", 3)]) (by decide +kernel)) (fun _ _ _ _ _ => (pg_name (i := 3) nd rfl (.inl rfl))) (fun _ _ _ _ _ => (pts_one (pt_cmpR op_ne (pe_dget hu (pv 2) (pv 3) (fun _ _ => rfl)) pe_int (nomark _)))) (fun _ _ _ _ _ => (pv 3)))
        (pss_one (ps_ret (pe_callTy call_tuple_of (by rfl) B.tuple (by decide +kernel) (pa_cons (pe_lc (own := [("_law_exponent", 3)]) (by rfl) nd (pi_list (pv 5)) (blkOk_by (N := ["_law_base_prime", "_law_pairs", "_law_terms", "_law_exponent", "_law_coefficient", "_law_kept"]) (sc := defScope s__law_normal) (own := [("_law_exponent", 3)]) (by decide +kernel)) (fun _ _ _ _ _ => (pg_name (i := 3) nd rfl (.inl rfl))) (fun _ _ _ _ _ => pts_nil) (fun _ _ _ _ _ => (pe_tup (pa_cons (pv 3) (pa_cons (pe_dget hu (pv 2) (pv 3) (fun _ _ => rfl)) pa_nil))))) pa_nil))))))), ?_⟩
      intro d nd0
      have s1 : Same H (upd H d (.dK [])) := same_new nd0
      refine ⟨_, rfl, a, rfl, ⟨_, same_t s1 hs⟩, for_tup (K := K) (a := a) (xs := xs) (fun i σ H2 => ∃ (m : Pol) (y z : Option V), σ = [some (.int p), some (.ref a), some (.ref d), y, z, none] ∧ Same H H2 ∧ H2 d = some (.dK (kvOf m)) ∧ (m.map (·.1)).Nodup ∧ m.length ≤ i ∧ ∀ e, cf m e = cf (ps.take i) e % p) ?_ ?_ ?_ ?_⟩
      · exact ⟨[], none, none, rfl, s1, upd_same, List.nodup_nil, Nat.le_refl _, fun _ => rfl⟩
      · rintro i σ H2 _ ⟨m, y, z, _, s2, _⟩
        exact same_t s2 hs
      · rintro i x σ H2 hi ⟨m, y, z, rfl, s2, hd, hn, hm, hc⟩
        obtain ⟨t, ht, b, rfl, hb⟩ := hP.get hi
        have hlt : i < ps.length := (List.getElem?_eq_some_iff.mp ht).1
        refine ⟨b, _, rfl, same_t s2 hb, rfl, _, _, rfl, _, _, rfl, rfl, ?_⟩
        refine ⟨_, rfl, d, rfl, .inl ⟨_, .inl hd⟩, _, rfl, _, dget_any t.1 hd, _, rfl, cf m t.1, t.2, kv_getD m t.1 hn, rfl, _, rfl, _, p, rfl, rfl, hp, _, rfl, _, rfl, d, _, rfl, dput_int t.1 ((cf m t.1 + t.2) % p) hd hn (by omega), ?_⟩
        refine ⟨put m t.1 ((cf m t.1 + t.2) % p), _, _, rfl, same_mut s2 nd0, upd_same, put_nodup _ _ _ hn, ?_, fun e => ?_⟩
        · have := put_len m t.1 ((cf m t.1 + t.2) % p)
          omega
        · rw [put_cf _ _ _ _ hn, take_snoc ht, cf_append, cf_cons, cf_nil]
          by_cases q : e = t.1
          · rw [if_pos q, if_pos q.symm, hc, q, Int.add_zero, Int.emod_add_emod]
          · rw [if_neg q, if_neg (fun z => q z.symm), hc, Int.zero_add, Int.add_zero]
      · rintro σ H2 ⟨m, y, z, rfl, s2, hd, hn, hm, hc⟩
        have hlen := hP.len
        rw [hlen, List.take_length] at hc
        have hml : m.length ≤ 1000000 := by omega
        refine ⟨_, rfl, d, kvOf m, m.map (·.1), rfl, .inl hd, kv_keys m, fun ys b perm srt nb => ?_⟩
        have hyl : ys.length ≤ 1000000 := by
          rw [perm.length_eq, List.length_map]
          exact hml
        have sb : Same H2 (upd H2 b (.lst (ys.map V.int))) := same_new nb
        have hk : ∀ e ∈ ys, e ∈ m.map (·.1) := fun e he => perm.mem_iff.mp he
        refine ⟨b, rfl, ⟨_, SqL.of upd_same⟩, fun D nD => ?_⟩
        refine lc_list (K := K) (a := b) (xs := ys.map V.int) (fun i H3 => Same (upd H2 b (.lst (ys.map V.int))) H3 ∧ H3 D = some (.lst (((ys.take i).filter fun e => decide (cf m e ≠ 0)).map V.int))) ⟨same_new nD, upd_same⟩ (fun i H3 _ h => SqL.of (h.1 _ _ upd_same)) ?_ ?_
        · rintro i x H3 hi ⟨s3, h3⟩
          obtain ⟨e, he, rfl⟩ := ints_get hi
          have hd3 := s3 _ _ (sb _ _ hd)
          refine ⟨rfl, _, rfl, _, rfl, d, _, rfl, dget_int hd3 hn (hk e (List.mem_of_getElem? he)), rfl, _, rfl, ?_⟩
          show if (!decide (V.int (cf m e) = V.int 0)) = true then _ else _
          rw [take_snoc he, List.filter_append, List.map_append]
          by_cases q : cf m e = 0
          · rw [q, if_neg (by simp)]
            refine ⟨s3, ?_⟩
            rw [h3]
            simp [q]
          · have zz : (!decide (V.int (cf m e) = V.int 0)) = true := by simp [q]
            rw [zz]
            refine iteT ?_
            refine ⟨_, rfl, _, h3, sl_lt ?_, same_mut s3 nD, ?_⟩
            · rw [List.length_map]
              have h1 := List.length_filter_le (fun e => decide (cf m e ≠ 0)) (ys.take i)
              have h2 : i < ys.length := (List.getElem?_eq_some_iff.mp he).1
              rw [List.length_take] at h1
              omega
            · rw [upd_same]
              simp [q]
        · rintro H3 ⟨s3, h3⟩
          rw [List.length_map, List.take_length] at h3
          have hd3 := s3 _ _ (sb _ _ hd)
          have s03 : Same H H3 := (s2.trans sb).trans s3
          generalize hzs : (ys.filter fun e => decide (cf m e ≠ 0)) = zs at h3
          have hzl : zs.length ≤ 1000000 := by
            have h1 := List.length_filter_le (fun e => decide (cf m e ≠ 0)) ys
            rw [hzs] at h1
            omega
          have hzk : ∀ e ∈ zs, e ∈ m.map (·.1) := fun e he => hk e (List.mem_filter.mp (show e ∈ ys.filter fun e => decide (cf m e ≠ 0) by rw [hzs]; exact he)).1
          refine ⟨_, rfl, D, rfl, ⟨_, SqL.of h3⟩, fun D2 nD2 => ?_⟩
          refine lc_list (K := K) (a := D) (xs := zs.map V.int) (fun i H4 => Grow K H3 D2 ((zs.take i).map fun e => (e, cf m e)) H4) (.start nD2) (fun i H4 _ g => SqL.of (g.same _ _ h3)) ?_ ?_
          · intro i x H4 hi g
            obtain ⟨e, he, rfl⟩ := ints_get hi
            refine ⟨rfl, ?_⟩
            dsimp only [tYes]
            rw [if_pos rfl]
            refine ⟨_, rfl, _, rfl, _, rfl, d, _, rfl, dget_int (g.same _ _ hd3) hn (hzk e (List.mem_of_getElem? he)), sl_of (show 2 ≤ 1000000 by decide), fun q nq => ?_⟩
            rw [take_snoc he, List.map_append]
            refine g.step nD2 nq e (cf m e) ?_
            have : i < zs.length := (List.getElem?_eq_some_iff.mp he).1
            rw [List.length_map, List.length_take]
            omega
          · intro H4 g
            rw [List.length_map, List.take_length] at g
            have hz : (zs.map fun e => (e, cf m e)) = kept p (cf ps) ys := by
              unfold kept
              rw [← hzs]
              have e1 : (fun e => decide (cf m e ≠ 0)) = fun e => decide (cf ps e % p ≠ 0) := funext fun e => by rw [hc]
              have e2 : (fun e => (e, cf m e)) = fun e => (e, cf ps e % p) := funext fun e => by rw [hc]
              rw [e1, e2]
            rw [hz] at g
            refine rd_tuple g fun v H5 s5 h5 => k v H5 _ (s03.trans s5) h5 (kept_nf hp srt (perm.nodup_iff.mpr hn) fun e he => ?_)
            rw [← hc, cf_out (fun z => he (perm.mem_iff.mpr z))]
    · refine ⟨_, (pss_cons (ps_set (i := 2) nd rfl (.inr rfl) pe_dnewK)
        (pss_cons (ps_for PassesOwn.never rfl (pi_list (pv 1)) (pg_tup rfl (pgs_cons (pg_name (i := 3) nd rfl (.inl rfl)) (pgs_cons (pg_name (i := 4) nd rfl (.inl rfl)) pgs_nil)))
          (pss_one (ps_dput hu (pv 2) (pv 3) (pe_op op_mod (pe_op op_add (pe_dget2 hu (pv 2) (pv 3) pe_int ⟨rfl, rfl, rfl, rfl⟩) (pv 4)) (pv 0)) rfl)))
        (pss_cons (ps_setLc (i := 5) (own := [("_law_exponent", 3)]) (by rfl) nd rfl rfl (sw_true rfl rfl rfl (by decide +kernel)) (pi_list (pe_callB (call_sortedDA rfl) (by rfl) B.sorted (by decide +kernel) (pa_cons (pv 2) pa_nil))) (blkOk_by (N := ["_law_base_prime", "_law_pairs", "_law_terms", "_law_exponent", "_law_coefficient", "_law_kept"]) (sc := defScope s__law_normal) (own := [("_law_exponent", 3)]) (by decide +kernel)) (fun _ _ _ _ _ => (pg_name (i := 3) nd rfl (.inl rfl))) (fun _ _ _ _ _ => (pts_one (pt_cmpR op_ne (pe_dget hu (pv 2) (pv 3) (fun _ _ => rfl)) pe_int (nomark _)))) (fun _ _ _ _ _ => (pv 3)))
        (pss_one (ps_ret (pe_callTy call_tuple_of (by rfl) B.tuple (by decide +kernel) (pa_cons (pe_lc (own := [("_law_exponent", 3)]) (by rfl) nd (pi_list (pv 5)) (blkOk_by (N := ["_law_base_prime", "_law_pairs", "_law_terms", "_law_exponent", "_law_coefficient", "_law_kept"]) (sc := defScope s__law_normal) (own := [("_law_exponent", 3)]) (by decide +kernel)) (fun _ _ _ _ _ => (pg_name (i := 3) nd rfl (.inl rfl))) (fun _ _ _ _ _ => pts_nil) (fun _ _ _ _ _ => (pe_tup (pa_cons (pv 3) (pa_cons (pe_dget hu (pv 2) (pv 3) (fun _ _ => rfl)) pa_nil))))) pa_nil))))))), ?_⟩
      intro d nd0
      have s1 : Same H (upd H d (.dK [])) := same_new nd0
      refine ⟨_, rfl, a, rfl, ⟨_, same_l s1 hs⟩, for_list (K := K) (a := a) (xs := xs) (fun i σ H2 => ∃ (m : Pol) (y z : Option V), σ = [some (.int p), some (.ref a), some (.ref d), y, z, none] ∧ Same H H2 ∧ H2 d = some (.dK (kvOf m)) ∧ (m.map (·.1)).Nodup ∧ m.length ≤ i ∧ ∀ e, cf m e = cf (ps.take i) e % p) ?_ ?_ ?_ ?_⟩
      · exact ⟨[], none, none, rfl, s1, upd_same, List.nodup_nil, Nat.le_refl _, fun _ => rfl⟩
      · rintro i σ H2 _ ⟨m, y, z, _, s2, _⟩
        exact same_l s2 hs
      · rintro i x σ H2 hi ⟨m, y, z, rfl, s2, hd, hn, hm, hc⟩
        obtain ⟨t, ht, b, rfl, hb⟩ := hP.get hi
        have hlt : i < ps.length := (List.getElem?_eq_some_iff.mp ht).1
        refine ⟨b, _, rfl, same_t s2 hb, rfl, _, _, rfl, _, _, rfl, rfl, ?_⟩
        refine ⟨_, rfl, d, rfl, .inl ⟨_, .inl hd⟩, _, rfl, _, dget_any t.1 hd, _, rfl, cf m t.1, t.2, kv_getD m t.1 hn, rfl, _, rfl, _, p, rfl, rfl, hp, _, rfl, _, rfl, d, _, rfl, dput_int t.1 ((cf m t.1 + t.2) % p) hd hn (by omega), ?_⟩
        refine ⟨put m t.1 ((cf m t.1 + t.2) % p), _, _, rfl, same_mut s2 nd0, upd_same, put_nodup _ _ _ hn, ?_, fun e => ?_⟩
        · have := put_len m t.1 ((cf m t.1 + t.2) % p)
          omega
        · rw [put_cf _ _ _ _ hn, take_snoc ht, cf_append, cf_cons, cf_nil]
          by_cases q : e = t.1
          · rw [if_pos q, if_pos q.symm, hc, q, Int.add_zero, Int.emod_add_emod]
          · rw [if_neg q, if_neg (fun z => q z.symm), hc, Int.zero_add, Int.add_zero]
      · rintro σ H2 ⟨m, y, z, rfl, s2, hd, hn, hm, hc⟩
        have hlen := hP.len
        rw [hlen, List.take_length] at hc
        have hml : m.length ≤ 1000000 := by omega
        refine ⟨_, rfl, d, kvOf m, m.map (·.1), rfl, .inl hd, kv_keys m, fun ys b perm srt nb => ?_⟩
        have hyl : ys.length ≤ 1000000 := by
          rw [perm.length_eq, List.length_map]
          exact hml
        have sb : Same H2 (upd H2 b (.lst (ys.map V.int))) := same_new nb
        have hk : ∀ e ∈ ys, e ∈ m.map (·.1) := fun e he => perm.mem_iff.mp he
        refine ⟨b, rfl, ⟨_, SqL.of upd_same⟩, fun D nD => ?_⟩
        refine lc_list (K := K) (a := b) (xs := ys.map V.int) (fun i H3 => Same (upd H2 b (.lst (ys.map V.int))) H3 ∧ H3 D = some (.lst (((ys.take i).filter fun e => decide (cf m e ≠ 0)).map V.int))) ⟨same_new nD, upd_same⟩ (fun i H3 _ h => SqL.of (h.1 _ _ upd_same)) ?_ ?_
        · rintro i x H3 hi ⟨s3, h3⟩
          obtain ⟨e, he, rfl⟩ := ints_get hi
          have hd3 := s3 _ _ (sb _ _ hd)
          refine ⟨rfl, _, rfl, _, rfl, d, _, rfl, dget_int hd3 hn (hk e (List.mem_of_getElem? he)), rfl, _, rfl, ?_⟩
          show if (!decide (V.int (cf m e) = V.int 0)) = true then _ else _
          rw [take_snoc he, List.filter_append, List.map_append]
          by_cases q : cf m e = 0
          · rw [q, if_neg (by simp)]
            refine ⟨s3, ?_⟩
            rw [h3]
            simp [q]
          · have zz : (!decide (V.int (cf m e) = V.int 0)) = true := by simp [q]
            rw [zz]
            refine iteT ?_
            refine ⟨_, rfl, _, h3, sl_lt ?_, same_mut s3 nD, ?_⟩
            · rw [List.length_map]
              have h1 := List.length_filter_le (fun e => decide (cf m e ≠ 0)) (ys.take i)
              have h2 : i < ys.length := (List.getElem?_eq_some_iff.mp he).1
              rw [List.length_take] at h1
              omega
            · rw [upd_same]
              simp [q]
        · rintro H3 ⟨s3, h3⟩
          rw [List.length_map, List.take_length] at h3
          have hd3 := s3 _ _ (sb _ _ hd)
          have s03 : Same H H3 := (s2.trans sb).trans s3
          generalize hzs : (ys.filter fun e => decide (cf m e ≠ 0)) = zs at h3
          have hzl : zs.length ≤ 1000000 := by
            have h1 := List.length_filter_le (fun e => decide (cf m e ≠ 0)) ys
            rw [hzs] at h1
            omega
          have hzk : ∀ e ∈ zs, e ∈ m.map (·.1) := fun e he => hk e (List.mem_filter.mp (show e ∈ ys.filter fun e => decide (cf m e ≠ 0) by rw [hzs]; exact he)).1
          refine ⟨_, rfl, D, rfl, ⟨_, SqL.of h3⟩, fun D2 nD2 => ?_⟩
          refine lc_list (K := K) (a := D) (xs := zs.map V.int) (fun i H4 => Grow K H3 D2 ((zs.take i).map fun e => (e, cf m e)) H4) (.start nD2) (fun i H4 _ g => SqL.of (g.same _ _ h3)) ?_ ?_
          · intro i x H4 hi g
            obtain ⟨e, he, rfl⟩ := ints_get hi
            refine ⟨rfl, ?_⟩
            dsimp only [tYes]
            rw [if_pos rfl]
            refine ⟨_, rfl, _, rfl, _, rfl, d, _, rfl, dget_int (g.same _ _ hd3) hn (hzk e (List.mem_of_getElem? he)), sl_of (show 2 ≤ 1000000 by decide), fun q nq => ?_⟩
            rw [take_snoc he, List.map_append]
            refine g.step nD2 nq e (cf m e) ?_
            have : i < zs.length := (List.getElem?_eq_some_iff.mp he).1
            rw [List.length_map, List.length_take]
            omega
          · intro H4 g
            rw [List.length_map, List.take_length] at g
            have hz : (zs.map fun e => (e, cf m e)) = kept p (cf ps) ys := by
              unfold kept
              rw [← hzs]
              have e1 : (fun e => decide (cf m e ≠ 0)) = fun e => decide (cf ps e % p ≠ 0) := funext fun e => by rw [hc]
              have e2 : (fun e => (e, cf m e)) = fun e => (e, cf ps e % p) := funext fun e => by rw [hc]
              rw [e1, e2]
            rw [hz] at g
            refine rd_tuple g fun v H5 s5 h5 => k v H5 _ (s03.trans s5) h5 (kept_nf hp srt (perm.nodup_iff.mpr hn) fun e he => ?_)
            rw [← hc, cf_out (fun z => he (perm.mem_iff.mpr z))]
theorem sc__law_polynomial : FnScope ["_law_pen_here", "_law_base_prime", "_law_terms", "_law_reach", "_law_pairs", "_law_k"] ["_law_pen_here", "_law_base_prime", "_law_terms", "_law_reach"] (defScope s__law_polynomial) := ⟨rfl, rfl, rfl, by decide +kernel, rfl, by decide +kernel, by decide +kernel⟩
theorem ok__law_polynomial {f : Addr} {fd : FuncData} (F : Fun K "_law_polynomial" "_law_polynomial" s__law_polynomial f fd) (B : Blt mg) (C__law_draw : Cal P w K mg base 1 "_law_draw" sp__law_draw) (C__law_integer : Cal P w K mg base 2 "_law_integer" sp__law_integer) (C__law_normal : Cal P w K mg base 1 "_law_normal" (sp_normalize K)) :
    FnOk P w K mg base CX0 3 f fd ["_law_pen_here", "_law_base_prime", "_law_terms", "_law_reach"] (sp__law_polynomial K) := by
  refine F.ok sc__law_polynomial (fun vs H Q E h => ?_) (fun cdv A outer s H vs Q E hr h => ?_)
  · obtain ⟨p, cs, q, terms, reach, n, rfl, _⟩ := h
    rfl
  · obtain ⟨p, cs, q, terms, reach, n, rfl, hq, hq2, ht, ht2, hre, hre2, pen, hn, k⟩ := h
    have nd := sc__law_polynomial.nd
    refine ⟨_, (pss_cons (ps_set (i := 4) nd rfl (.inl rfl) (pe_lst pa_nil))
    (pss_cons (ps_for PassesOwn.never rfl (pi_range1 (by rfl) B.range (pa_cons (pe_c C__law_draw hr (by decide) (by rfl) (pa_cons (pv 0) (pa_cons (pe_op op_add (pv 2) pe_int) pa_nil))) pa_nil)) (pg_name (i := 5) nd rfl (.inl rfl))
      (pss_one (ps_expr (pe_bm PySem.F.plainAttrs_list PySem.F.slot_list_append PySem.F.type_list_append mt_append (pv 4) (pa_cons (pe_tup (pa_cons (pe_c C__law_integer hr (by decide) (by rfl) (pa_cons (pv 0) (pa_cons (pv 3) pa_nil))) (pa_cons (pe_op op_add pe_int (pe_c C__law_draw hr (by decide) (by rfl) (pa_cons (pv 0) (pa_cons (pe_op op_sub (pv 1) pe_int) pa_nil)))) pa_nil))) pa_nil)))))
    (pss_one (ps_ret (pe_c C__law_normal hr (by decide) (by rfl) (pa_cons (pv 1) (pa_cons (pv 4) pa_nil))))))), ?_⟩
    refine ⟨Nat.zero_le _, fun D nD => ?_⟩
    have s1 : Same H (upd H D (.lst [])) := same_new nD
    have npD : D ≠ p := pen.np nD
    have ncD : D ≠ cs := pen.nc nD
    refine ⟨_, rfl, _, rfl, terms, 1, rfl, rfl, p, cs, terms + 1, n, rfl, by omega, ?_, pen.same s1, by omega, fun r H1 h0 h9 kp pen1 => ?_⟩
    · exact Nat.lt_of_le_of_lt (show (terms + 1).natAbs ≤ 1001 by omega) (by decide)
    have hD1 : H1 D = some (.lst []) := kp _ _ npD upd_same
    refine ⟨r, rfl, by omega, by omega, for_range (lo := 0) (n := r.toNat) (fun i σ H2 => ∃ (xs : List V) (f : Pol) (y : Option V), σ = [some (.ref p), some (.int q), some (.int terms), some (.int reach), some (.ref D), y] ∧ Kp p H H2 ∧ PenAt H2 p cs (n + 1 + 2 * i) ∧ H2 D = some (.lst xs) ∧ Prs K H2 xs f ∧ f.length = i ∧ ∀ t ∈ f, t.1.natAbs ≤ reach.natAbs) ?_ ?_ ?_⟩
    · exact ⟨[], [], none, rfl, (Same.kp s1).trans kp, pen1, hD1, .nil, rfl, fun t h => absurd h List.not_mem_nil⟩
    · rintro i σ H2 hi ⟨xs, f, y, rfl, k2, pen2, hD2, hP, hlen, hb⟩
      refine ⟨_, rfl, .inl ⟨rfl, _, SqL.of hD2⟩, _, rfl, _, rfl, p, cs, reach, n + 1 + 2 * i, rfl, hre, hre2, pen2, by omega, fun e H3 he k3 pen3 => ?_⟩
      refine ⟨_, rfl, _, rfl, q, 1, rfl, rfl, p, cs, q - 1, n + 1 + 2 * i + 1, rfl, by omega, ?_, pen3, by omega, fun c H4 h0c h9c k4 pen4 => ?_⟩
      · exact Nat.lt_of_le_of_lt (show (q - 1).natAbs ≤ 97 by omega) (by decide)
      refine ⟨1, c, rfl, rfl, sl_of (show 2 ≤ 1000000 by decide), fun b nb => ?_⟩
      have k34 : Kp p H2 H4 := k3.trans k4
      have hD4 : H4 D = some (.lst xs) := k34 _ _ npD hD2
      have nbD : D ≠ b := ne_of_none hD4 nb
      have t1 : Tp H4 (upd H4 b (.tup [.int e, .int (1 + c)])) := tp_new nb
      have hD5 : upd H4 b (.tup [.int e, .int (1 + c)]) D = some (.lst xs) := by
        rw [upd_ne nbD]
        exact hD4
      refine ⟨D, xs, _, rfl, rfl, hD5, sl_lt (by rw [hP.len]; omega), ?_⟩
      have t2 : Tp (upd H4 b (.tup [.int e, .int (1 + c)])) (upd (upd H4 b (.tup [.int e, .int (1 + c)])) D (.lst (xs ++ [.ref b]))) := tp_lst hD5
      refine ⟨xs ++ [.ref b], f ++ [(e, 1 + c)], _, rfl, fun x o nx ex => ?_, ?_, upd_same, Prs.snoc (Prs.tp ((pen2.tp k34).trans (t1.trans t2)) hP) (IsPr.tp t2 (isPr_new (t := (e, 1 + c)))), by rw [List.length_append, hlen]; rfl, fun t h => ?_⟩
      · have nxD : x ≠ D := ne_of_none ex nD
        rw [upd_ne nxD]
        have ex4 := k34 _ _ nx (k2 _ _ nx ex)
        rw [upd_ne (ne_of_none ex4 nb)]
        exact ex4
      · exact ((pen4.same (same_new nb)).mono (by omega)).upd npD ncD
      · rcases List.mem_append.mp h with h | h
        · exact hb t h
        · have : t = (e, 1 + c) := by simpa using h
          rw [this]
          exact he
    · rintro σ H2 ⟨xs, f, y, rfl, k2, pen2, hD2, hP, hlen, hb⟩
      refine ⟨_, rfl, _, rfl, q, _, f, rfl, by omega, .inr ⟨D, xs, rfl, SqL.of hD2, hP⟩, by omega, fun u H3 g s3 hg hN => ?_⟩
      have zero : ∀ e, e ∉ f.map (·.1) → cf f e % q = 0 := fun e he => by
        rw [cf_out he]
        rfl
      refine k u H3 g (k2.trans (Same.kp s3)) ((pen2.same s3).mono (by omega)) hg ⟨hN.self, ?_, fun t ht => ?_⟩
      · have := hN.len zero
        rw [List.length_map] at this
        omega
      · obtain ⟨z, hz, ez⟩ := List.mem_map.mp (hN.sub zero t ht)
        rw [← ez]
        exact hb z hz
theorem sc__law_effect : FnScope ["_law_pen_here", "_law_base_prime", "_law_terms", "_law_reach", "_law_polynomial_here"] ["_law_pen_here", "_law_base_prime", "_law_terms", "_law_reach"] (defScope s__law_effect) := ⟨rfl, rfl, rfl, by decide +kernel, rfl, by decide +kernel, by decide +kernel⟩
theorem ok__law_effect {f : Addr} {fd : FuncData} (F : Fun K "_law_effect" "_law_effect" s__law_effect f fd) (B : Blt mg) (C__law_draw : Cal P w K mg base 1 "_law_draw" sp__law_draw) (C__law_integer : Cal P w K mg base 2 "_law_integer" sp__law_integer) (C__law_polynomial : Cal P w K mg base 3 "_law_polynomial" (sp__law_polynomial K)) :
    FnOk P w K mg base CX0 4 f fd ["_law_pen_here", "_law_base_prime", "_law_terms", "_law_reach"] (sp__law_effect K) := by
  refine F.ok sc__law_effect (fun vs H Q E h => ?_) (fun cdv A outer s H vs Q E hr h => ?_)
  · obtain ⟨p, cs, q, terms, reach, n, rfl, _⟩ := h
    rfl
  · obtain ⟨p, cs, q, terms, reach, n, rfl, hq, hq2, ht, ht2, hre, hre2, pen, hn, k⟩ := h
    have nd := sc__law_effect.nd
    refine ⟨_, (pss_cons (ps_set (i := 4) nd rfl (.inl rfl) (pe_c C__law_polynomial hr (by decide) (by rfl) (pa_cons (pv 0) (pa_cons (pv 1) (pa_cons (pv 2) (pa_cons (pv 3) pa_nil))))))
    (pss_one (ps_ret (pe_tup (pa_cons (pv 4) (pa_cons (pe_c C__law_integer hr (by decide) (by rfl) (pa_cons (pv 0) (pa_cons (pe_ix ix_list (pe_lst (pa_cons (pv 3) (pa_cons (pe_callB (call_min2 rfl) (by rfl) B.min (by decide +kernel) (pa_cons pe_int (pa_cons (pv 3) pa_nil))) (pa_cons pe_int pa_nil)))) (pe_c C__law_draw hr (by decide) (by rfl) (pa_cons (pv 0) (pa_cons pe_int pa_nil))) (fun _ _ => rfl)) pa_nil))) pa_nil)))))), ?_⟩
    refine ⟨_, rfl, _, rfl, _, rfl, _, rfl, p, cs, q, terms, reach, n, rfl, hq, hq2, ht, ht2, hre, hre2, pen, by omega, fun v H1 g k1 pen1 hT d => ?_⟩
    refine ⟨_, rfl, _, rfl, _, rfl, _, rfl, 3, reach, rfl, sl_of (show 3 ≤ 1000000 by decide), fun o no => ?_⟩
    have pen2 := pen1.same (same_new no (o := .lst [V.int reach, V.int (if reach < 3 then reach else 3), V.int 0]))
    have nop : o ≠ p := pen1.np no
    refine ⟨_, rfl, p, cs, 3, _, rfl, by decide, by decide, pen2, by omega, fun r H2 h0 h9 k2 pen3 => ?_⟩
    obtain ⟨mm, hat, hm0, hm9⟩ : ∃ mm : Int, atI [V.int reach, V.int (if reach < 3 then reach else 3), V.int 0] r = some (.int mm) ∧ 0 ≤ mm ∧ mm ≤ reach := by
      rcases atI3 (a := V.int reach) (b := V.int (if reach < 3 then reach else 3)) (c := V.int 0) h0 h9 with e | e | e
      · exact ⟨_, e, hre, Int.le_refl _⟩
      · refine ⟨_, e, ?_, ?_⟩
        · split <;> omega
        · split <;> omega
      · exact ⟨_, e, Int.le_refl _, hre⟩
    refine ⟨o, _, _, _, rfl, rfl, SqL.of (k2 _ _ nop upd_same), hat, p, cs, mm, _, rfl, hm0, by omega, pen3, by omega, fun sh H3 hsh k3 pen4 => ?_⟩
    refine ⟨sl_of (show 2 ≤ 1000000 by decide), fun b nb => ?_⟩
    have t3 : Tp H1 H3 := (tp_new no).trans ((pen2.tp k2).trans (pen3.tp k3))
    refine k _ _ g sh (k1.trans ((Same.kp (same_new no)).trans (k2.trans (k3.trans (Same.kp (same_new nb)))))) ((pen4.same (same_new nb)).mono (by omega)) ⟨b, v, rfl, SqT.of upd_same, hT.tp (t3.trans (tp_new nb))⟩ d (by omega)
theorem sc__law_wide : FnScope ["_law_pen_here", "_law_most", "_law_number", "_law_k", "_law_near", "_law_anywhere"] ["_law_pen_here", "_law_most"] (defScope s__law_wide) := ⟨rfl, rfl, rfl, by decide +kernel, rfl, by decide +kernel, by decide +kernel⟩
theorem ok__law_wide {f : Addr} {fd : FuncData} (F : Fun K "_law_wide" "_law_wide" s__law_wide f fd) (B : Blt mg) (C__law_draw : Cal P w K mg base 1 "_law_draw" sp__law_draw) (C__law_pick : Cal P w K mg base 2 "_law_pick" sp__law_pick) : FnOk P w K mg base CX0 3 f fd ["_law_pen_here", "_law_most"] sp__law_wide := by
  refine F.ok sc__law_wide (fun vs H Q E h => ?_) (fun cdv A outer s H vs Q E hr h => ?_)
  · obtain ⟨p, c, most, n, rfl, _⟩ := h
    rfl
  · obtain ⟨p, c, most, n, rfl, h0, h9, pen, hn, k⟩ := h
    have nd := sc__law_wide.nd
    refine ⟨_, (pss_cons (ps_set (i := 2) nd rfl (.inl rfl) pe_int)
    (pss_cons (ps_for PassesOwn.never rfl (pi_range1 (by rfl) B.range (pa_cons pe_int pa_nil)) (pg_name (i := 3) nd rfl (.inl rfl))
      (pss_one (ps_set (i := 2) nd rfl (.inl rfl) (pe_op op_add (pe_op op_mul (pv 2) (pe_op op_pow pe_int pe_int)) (pe_c C__law_draw hr (by decide) (by rfl) (pa_cons (pv 0) (pa_cons (pe_op op_pow pe_int pe_int) pa_nil)))))))
    (pss_cons (ps_par (i := 4) (j := 5) (by rfl) nd rfl rfl (by decide) rfl rfl (pa_cons (pe_c C__law_draw hr (by decide) (by rfl) (pa_cons (pv 0) (pa_cons pe_int pa_nil))) (pa_cons (pe_op op_sub (pe_op op_mod (pv 2) (pe_op op_add (pe_op op_mul pe_int (pv 1)) pe_int)) (pv 1)) pa_nil)) (by rfl))
    (pss_one (ps_ret (pe_c C__law_pick hr (by decide) (by rfl) (pa_cons (pv 0) (pa_cons (pe_lst (pa_cons (pv 4) (pa_cons (pe_un un_neg (pv 4)) (pa_cons (pe_op op_sub (pv 1) (pv 4)) (pa_cons (pe_op op_sub (pv 4) (pv 1)) (pa_cons (pv 5) (pa_cons (pv 5) pa_nil))))))) pa_nil)))))))), ?_⟩
    refine ⟨5, rfl, by decide, by decide, for_range (lo := 0) (n := 5) (fun i σ H2 => ∃ (num : Int) (y : Option V), σ = [some (.ref p), some (.int most), some (.int num), y, none, none] ∧ Kp p H H2 ∧ PenAt H2 p c (n + i)) ⟨0, none, rfl, Kp.refl _ _, pen⟩ ?_ ?_⟩
    · rintro i σ H2 hi ⟨num, y, rfl, k2, pen2⟩
      refine ⟨_, rfl, 10, 7, rfl, rfl, ⟨by decide, by decide, by decide⟩, num, _, rfl, rfl, .inr ⟨by decide, by decide⟩, _, rfl, 10, 7, rfl, rfl, ⟨by decide, by decide, by decide⟩, p, c, 10 ^ 7, n + i, rfl, by decide, by decide, pen2, by omega, fun r H3 _ _ k3 pen3 => ?_⟩
      exact ⟨_, _, rfl, rfl, _, _, rfl, k2.trans k3, pen3⟩
    · rintro σ H2 ⟨num, y, rfl, k2, pen2⟩
      refine ⟨_, rfl, p, c, 9, n + 5, rfl, by decide, by decide, pen2, by omega, fun near H3 hn0 hn9 k3 pen3 => ?_⟩
      have hm : 0 < 2 * most + 1 := by omega
      refine ⟨_, rfl, _, rfl, 2, most, rfl, rfl, .inl ⟨by decide, by decide⟩, _, 1, rfl, rfl, num, _, rfl, rfl, hm, _, rfl, _, most, rfl, rfl, _, _, rfl, ?_⟩
      have a1 := Int.emod_nonneg num (show 2 * most + 1 ≠ 0 by omega)
      have a2 := Int.emod_lt_of_pos num hm
      generalize num % (2 * most + 1) = z at a1 a2
      refine ⟨_, rfl, _, rfl, _, rfl, near, rfl, _, rfl, _, rfl, most, near, rfl, rfl, _, rfl, _, rfl, near, most, rfl, rfl, _, rfl, _, rfl, sl_of (show 6 ≤ 1000000 by decide), fun o no => ?_⟩
      refine ⟨p, c, o, _, _, rfl, pen3.same (same_new no), by omega, upd_same, (show 0 < 6 by decide), (show 6 ≤ 100000 by decide), fun v H4 hv k4 pen4 => ?_⟩
      have fin : ∀ r : Int, v = .int r → r.natAbs ≤ most.natAbs + 8 → Q v H4 := fun r e hr => by
        rw [e]
        exact k r H4 hr (k2.trans (k3.trans ((Same.kp (same_new no)).trans k4))) pen4
      rcases List.mem_cons.mp hv with e | hv
      · exact fin _ e (by omega)
      rcases List.mem_cons.mp hv with e | hv
      · exact fin _ e (by omega)
      rcases List.mem_cons.mp hv with e | hv
      · exact fin _ e (by omega)
      rcases List.mem_cons.mp hv with e | hv
      · exact fin _ e (by omega)
      rcases List.mem_cons.mp hv with e | hv
      · exact fin _ e (by omega)
      rcases List.mem_cons.mp hv with e | hv
      · exact fin _ e (by omega)
      exact absurd hv List.not_mem_nil
theorem sc__law_wide_effect : FnScope ["_law_pen_here", "_law_base_prime", "_law_terms", "_law_most", "_law_pairs", "_law_k"] ["_law_pen_here", "_law_base_prime", "_law_terms", "_law_most"] (defScope s__law_wide_effect) := ⟨rfl, rfl, rfl, by decide +kernel, rfl, by decide +kernel, by decide +kernel⟩
theorem ok__law_wide_effect {f : Addr} {fd : FuncData} (F : Fun K "_law_wide_effect" "_law_wide_effect" s__law_wide_effect f fd) (B : Blt mg) (C__law_draw : Cal P w K mg base 1 "_law_draw" sp__law_draw) (C__law_pick : Cal P w K mg base 2 "_law_pick" sp__law_pick) (C__law_integer : Cal P w K mg base 2 "_law_integer" sp__law_integer) (C__law_normal : Cal P w K mg base 1 "_law_normal" (sp_normalize K)) (C__law_wide : Cal P w K mg base 3 "_law_wide" sp__law_wide) : FnOk P w K mg base CX0 4 f fd ["_law_pen_here", "_law_base_prime", "_law_terms", "_law_most"] (sp__law_wide_effect K) := by
  refine F.ok sc__law_wide_effect (fun vs H Q E h => ?_) (fun cdv A outer s H vs Q E hr h => ?_)
  · obtain ⟨p, c, q, terms, most, n, rfl, _⟩ := h
    rfl
  · obtain ⟨p, c, q, terms, most, n, rfl, hq, hq2, ht, ht2, hm, hm2, pen, hn, k⟩ := h
    have nd := sc__law_wide_effect.nd
    have hm3 : most.natAbs < 10 ^ 90 := Nat.lt_of_lt_of_le hm2 (by decide)
    refine ⟨_, (pss_cons (ps_setLc (i := 4) (own := [("_law_k", 5)]) (by rfl) nd rfl rfl (sw_true rfl rfl rfl (by decide +kernel)) (pi_range1 (by rfl) B.range (pa_cons (pe_c C__law_draw hr (by decide) (by rfl) (pa_cons (pv 0) (pa_cons (pe_op op_add (pv 2) pe_int) pa_nil))) pa_nil)) (blkOk_by (N := ["_law_pen_here", "_law_base_prime", "_law_terms", "_law_most", "_law_pairs", "_law_k"]) (sc := defScope s__law_wide_effect) (own := [("_law_k", 5)]) (by decide +kernel)) (fun _ _ _ _ _ => (pg_name (i := 5) nd rfl (.inl rfl))) (fun _ _ _ _ _ => pts_nil) (fun _ _ _ _ _ => (pe_tup (pa_cons (pe_c C__law_wide hr (by decide) (by rfl) (pa_cons (pv 0) (pa_cons (pv 3) pa_nil))) (pa_cons (pe_op op_add pe_int (pe_c C__law_draw hr (by decide) (by rfl) (pa_cons (pv 0) (pa_cons (pe_op op_sub (pv 1) pe_int) pa_nil)))) pa_nil)))))
    (pss_one (ps_ret (pe_tup (pa_cons (pe_c C__law_normal hr (by decide) (by rfl) (pa_cons (pv 1) (pa_cons (pv 4) pa_nil))) (pa_cons (pe_c C__law_pick hr (by decide) (by rfl) (pa_cons (pv 0) (pa_cons (pe_lst (pa_cons pe_int (pa_cons (pe_c C__law_integer hr (by decide) (by rfl) (pa_cons (pv 0) (pa_cons pe_int pa_nil))) (pa_cons (pe_c C__law_wide hr (by decide) (by rfl) (pa_cons (pv 0) (pa_cons (pv 3) pa_nil))) pa_nil)))) pa_nil))) pa_nil)))))), ?_⟩
    dsimp only [tNext, tSeq]
    refine lcPenP (K := K) (p := p) (c := c) (fun t => t.1.natAbs ≤ most.natAbs + 8 ∧ 0 < t.2 ∧ t.2 < q) terms.toNat (n + 1) 8 (by omega) (fun _ => rfl) (.inr ⟨_, pen⟩) (fun S z => ?_) (fun m hm0 H2 k2 pen2 S z => ?_) fun D H2 g hL hlen hR k2 pen2 => ?_
    · refine ⟨_, rfl, _, rfl, terms, 1, rfl, rfl, p, c, terms + 1, n, rfl, by omega, ?_, pen, by omega, fun r H1 r0 r9 k1 pen1 => z r H1 r0 (by omega) k1 pen1⟩
      exact Nat.lt_of_le_of_lt (show (terms + 1).natAbs ≤ 101 by omega) (by decide)
    · refine ⟨_, rfl, _, rfl, p, c, most, _, rfl, hm, hm3, pen2, by omega, fun e H3 he k3 pen3 => ?_⟩
      refine ⟨_, rfl, _, rfl, q, 1, rfl, rfl, p, c, q - 1, _, rfl, by omega, ?_, pen3, by omega, fun r H4 r0 r9 k4 pen4 => ?_⟩
      · exact Nat.lt_of_le_of_lt (show (q - 1).natAbs ≤ 97 by omega) (by decide)
      refine ⟨1, r, rfl, rfl, sl_of (show 2 ≤ 1000000 by decide), fun b nb => ?_⟩
      exact z (e, 1 + r) H4 b ⟨he, by show 0 < 1 + r; omega, by show 1 + r < q; omega⟩ nb (k3.trans k4) (pen4.mono (by omega))
    · refine ⟨_, rfl, _, rfl, q, _, g, rfl, by omega, .inr hL, by omega, fun u H3 r s3 hr3 hN => ?_⟩
      have pen3 := pen2.same s3
      refine ⟨_, rfl, _, rfl, p, c, 5, _, rfl, by decide, by decide, pen3, by omega, fun i5 H4 hi5 k4 pen4 => ?_⟩
      refine ⟨_, rfl, _, rfl, p, c, most, _, rfl, hm, hm3, pen4, by omega, fun wd H5 hwd k5 pen5 => ?_⟩
      refine ⟨sl_of (show 3 ≤ 1000000 by decide), fun o no => ?_⟩
      refine ⟨p, c, o, _, _, rfl, pen5.same (same_new no), by omega, upd_same, (show 0 < 3 by decide), (show 3 ≤ 100000 by decide), fun v H6 hv k6 pen6 => ?_⟩
      have zero : ∀ e, e ∉ g.map (·.1) → cf g e % q = 0 := fun e he => by
        rw [cf_out he]
        rfl
      have kk : Kp p H3 H6 := k4.trans (k5.trans ((Same.kp (same_new no)).trans k6))
      have hr6 : TPol K H6 u r := hr3.tp (pen3.tp kk)
      have fin : ∀ sh : Int, v = .int sh → sh.natAbs ≤ most.natAbs + 8 → ∀ b, H6 b = none → Q (.ref b) (upd H6 b (.tup [u, v])) := fun sh e hsh b nb => by
        subst e
        refine k (.ref b) _ r sh (k2.trans ((Same.kp s3).trans (kk.trans (Same.kp (same_new nb))))) ((pen6.same (same_new nb)).mono (by omega)) ⟨b, u, rfl, SqT.of upd_same, hr6.tp (tp_new nb)⟩ ⟨hN.self, ?_, fun t ht => ?_, hsh⟩
        · have := hN.len zero
          rw [List.length_map] at this
          omega
        · obtain ⟨y, hy, ey⟩ := List.mem_map.mp (hN.sub zero t ht)
          rw [← ey]
          exact (hR y hy).1
      refine ⟨sl_of (show 2 ≤ 1000000 by decide), fun b nb => ?_⟩
      rcases List.mem_cons.mp hv with e | hv
      · exact fin _ e (by show (0 : Int).natAbs ≤ _; omega) b nb
      rcases List.mem_cons.mp hv with e | hv
      · exact fin _ e (by have : (5 : Int).natAbs = 5 := rfl; omega) b nb
      rcases List.mem_cons.mp hv with e | hv
      · exact fin _ e hwd b nb
      exact absurd hv List.not_mem_nil
theorem sc__law_long_effect : FnScope ["_law_pen_here", "_law_base_prime", "_law_many", "_law_first", "_law_stride", "_law_jump", "_law_pairs", "_law_k"] ["_law_pen_here", "_law_base_prime", "_law_many"] (defScope s__law_long_effect) := ⟨rfl, rfl, rfl, by decide +kernel, rfl, by decide +kernel, by decide +kernel⟩
theorem ok__law_long_effect {f : Addr} {fd : FuncData} (F : Fun K "_law_long_effect" "_law_long_effect" s__law_long_effect f fd) (B : Blt mg) (C__law_draw : Cal P w K mg base 1 "_law_draw" sp__law_draw) (C__law_integer : Cal P w K mg base 2 "_law_integer" sp__law_integer) (C__law_normal : Cal P w K mg base 1 "_law_normal" (sp_normalize K)) : FnOk P w K mg base CX0 3 f fd ["_law_pen_here", "_law_base_prime", "_law_many"] (sp__law_long_effect K) := by
  refine F.ok sc__law_long_effect (fun vs H Q E h => ?_) (fun cdv A outer s H vs Q E hr h => ?_)
  · obtain ⟨p, c, q, many, n, rfl, _⟩ := h
    rfl
  · obtain ⟨p, c, q, many, n, rfl, hq, hq2, hm, hm2, pen, hn, k⟩ := h
    have nd := sc__law_long_effect.nd
    refine ⟨_, (pss_cons (ps_asg (pe_tup (pa_cons (pe_c C__law_integer hr (by decide) (by rfl) (pa_cons (pv 0) (pa_cons pe_int pa_nil))) (pa_cons (pe_op op_add pe_int (pe_c C__law_draw hr (by decide) (by rfl) (pa_cons (pv 0) (pa_cons pe_int pa_nil)))) (pa_cons (pe_c C__law_draw hr (by decide) (by rfl) (pa_cons (pv 0) (pa_cons (pv 1) pa_nil))) pa_nil)))) (pg_tup rfl (pgs_cons (pg_name (i := 3) nd rfl (.inr rfl)) (pgs_cons (pg_name (i := 4) nd rfl (.inr rfl)) (pgs_cons (pg_name (i := 5) nd rfl (.inr rfl)) pgs_nil)))))
    (pss_cons (ps_setLc (i := 6) (own := [("_law_k", 7)]) (by rfl) nd rfl rfl (sw_true rfl rfl rfl (by decide +kernel)) (pi_range1 (by rfl) B.range (pa_cons (pe_c C__law_draw hr (by decide) (by rfl) (pa_cons (pv 0) (pa_cons (pe_op op_add (pv 2) pe_int) pa_nil))) pa_nil)) (blkOk_by (N := ["_law_pen_here", "_law_base_prime", "_law_many", "_law_first", "_law_stride", "_law_jump", "_law_pairs", "_law_k"]) (sc := defScope s__law_long_effect) (own := [("_law_k", 7)]) (by decide +kernel)) (fun _ _ _ _ _ => (pg_name (i := 7) nd rfl (.inl rfl))) (fun _ _ _ _ _ => pts_nil) (fun _ _ _ _ _ => (pe_tup (pa_cons (pe_op op_add (pv 3) (pe_op op_mul (pv 7) (pv 4))) (pa_cons (pe_op op_add pe_int (pe_op op_mod (pe_op op_mul (pv 7) (pv 5)) (pe_op op_sub (pv 1) pe_int))) pa_nil)))))
    (pss_one (ps_ret (pe_tup (pa_cons (pe_c C__law_normal hr (by decide) (by rfl) (pa_cons (pv 1) (pa_cons (pv 6) pa_nil))) (pa_cons (pe_c C__law_integer hr (by decide) (by rfl) (pa_cons (pv 0) (pa_cons pe_int pa_nil))) pa_nil))))))), ?_⟩
    refine ⟨_, rfl, p, c, 300, n, rfl, by decide, by decide, pen, by omega, fun fi H1 hfi k1 pen1 => ?_⟩
    refine ⟨_, rfl, p, c, 3, _, rfl, by decide, by decide, pen1, by omega, fun st H2 st0 st9 k2 pen2 => ?_⟩
    refine ⟨1, st, rfl, rfl, _, rfl, _, rfl, p, c, q, _, rfl, by omega, Nat.lt_of_le_of_lt (show q.natAbs ≤ 97 by omega) (by decide), pen2, by omega, fun ju H3 ju0 ju9 k3 pen3 => ?_⟩
    refine ⟨sl_of (show 3 ≤ 1000000 by decide), fun t nt => ?_⟩
    refine ⟨t, _, rfl, SqT.of upd_same, rfl, _, _, rfl, _, _, rfl, _, _, rfl, rfl, ?_⟩
    have pen4 := pen3.same (same_new nt (o := HO.tup [V.int fi, V.int (1 + st), V.int ju]))
    dsimp only [tNext, tSeq]
    refine lcPenP (K := K) (p := p) (c := c) (fun t => t.1.natAbs ≤ 4000) many.toNat (n + 4) 0 (by omega) (fun _ => rfl) (.inr ⟨_, pen4⟩) (fun S z => ?_) (fun m hm0 H5 k5 pen5 S z => ?_) fun D H5 g hL hlen hR k5 pen5 => ?_
    · refine ⟨_, rfl, _, rfl, many, 1, rfl, rfl, p, c, many + 1, _, rfl, by omega, ?_, pen4, by omega, fun r H5 r0 r9 k5 pen5 => z r H5 r0 (by omega) k5 pen5⟩
      exact Nat.lt_of_le_of_lt (show (many + 1).natAbs ≤ 1001 by omega) (by decide)
    · have e0 : (0 + (m : Int)) = (m : Int) := by omega
      rw [e0]
      refine ⟨_, rfl, _, rfl, _, rfl, (m : Int), 1 + st, rfl, rfl, .inl ⟨by omega, by omega⟩, fi, _, rfl, rfl, ?_⟩
      refine ⟨_, rfl, _, rfl, (m : Int), ju, rfl, rfl, .inl ⟨by omega, by omega⟩, _, rfl, q, 1, rfl, rfl, _, _, rfl, rfl, (show (0 : Int) < q - 1 by omega), 1, _, rfl, rfl, sl_of (show 2 ≤ 1000000 by decide), fun b nb => ?_⟩
      refine z (fi + (m : Int) * (1 + st), 1 + (m : Int) * ju % (q - 1)) H5 b ?_ nb (Kp.refl _ _) (pen5.mono (by omega))
      show (fi + (m : Int) * (1 + st)).natAbs ≤ 4000
      have h3 : (m : Int) * (1 + st) ≤ (m : Int) * 3 := Int.mul_le_mul_of_nonneg_left (by omega) (by omega)
      have h4 : 0 ≤ (m : Int) * (1 + st) := Int.mul_nonneg (by omega) (by omega)
      have : (300 : Int).natAbs = 300 := rfl
      generalize (m : Int) * (1 + st) = z at h3 h4
      omega
    · refine ⟨_, rfl, _, rfl, q, _, g, rfl, by omega, .inr hL, by omega, fun u H6 r s6 hr6 hN => ?_⟩
      have pen6 := pen5.same s6
      refine ⟨_, rfl, p, c, 400, _, rfl, by decide, by decide, pen6, by omega, fun sh H7 hsh k7 pen7 => ?_⟩
      refine ⟨sl_of (show 2 ≤ 1000000 by decide), fun b nb => ?_⟩
      have zero : ∀ e, e ∉ g.map (·.1) → cf g e % q = 0 := fun e he => by
        rw [cf_out he]
        rfl
      refine k (.ref b) _ r sh (k1.trans (k2.trans (k3.trans ((Same.kp (same_new nt)).trans (k5.trans ((Same.kp s6).trans (k7.trans (Same.kp (same_new nb)))))))))
        ((pen7.same (same_new nb)).mono (by omega)) ⟨b, u, rfl, SqT.of upd_same, (hr6.tp (pen6.tp k7)).tp (tp_new nb)⟩ ⟨hN.self, ?_, fun t ht => ?_, ?_⟩
      · have := hN.len zero
        rw [List.length_map] at this
        omega
      · obtain ⟨y, hy, ey⟩ := List.mem_map.mp (hN.sub zero t ht)
        rw [← ey]
        exact hR y hy
      · have : (400 : Int).natAbs = 400 := rfl
        omega
theorem sc__law_any_effect : FnScope ["_law_pen_here", "_law_base_prime", "_law_most", "_law_many", "_law_way"] ["_law_pen_here", "_law_base_prime", "_law_most", "_law_many"] (defScope s__law_any_effect) := ⟨rfl, rfl, rfl, by decide +kernel, rfl, by decide +kernel, by decide +kernel⟩
theorem DrE.up {q : Int} {g : Pol} {m : Int} {L L' B B' : Nat} (h : DrE q g m L B) (a : L ≤ L') (b : B ≤ B') : DrE q g m L' B' := ⟨h.nf, Nat.le_trans h.len a, fun t ht => Nat.le_trans (h.abs t ht) b, Nat.le_trans h.sh b⟩
theorem ok__law_any_effect {f : Addr} {fd : FuncData} (F : Fun K "_law_any_effect" "_law_any_effect" s__law_any_effect f fd) (B : Blt mg) (C__law_draw : Cal P w K mg base 1 "_law_draw" sp__law_draw) (C__law_effect : Cal P w K mg base 4 "_law_effect" (sp__law_effect K)) (C__law_wide_effect : Cal P w K mg base 4 "_law_wide_effect" (sp__law_wide_effect K)) (C__law_long_effect : Cal P w K mg base 3 "_law_long_effect" (sp__law_long_effect K)) : FnOk P w K mg base CX0 5 f fd ["_law_pen_here", "_law_base_prime", "_law_most", "_law_many"] (sp__law_any_effect K) := by
  refine F.ok sc__law_any_effect (fun vs H Q E h => ?_) (fun cdv A outer s H vs Q E hr h => ?_)
  · obtain ⟨p, c, q, most, many, n, rfl, _⟩ := h
    rfl
  · obtain ⟨p, c, q, most, many, n, rfl, hq, hq2, hm, hm2, hy, hy2, pen, hn, k⟩ := h
    have nd := sc__law_any_effect.nd
    refine ⟨_, (pss_cons (ps_set (i := 4) nd rfl (.inl rfl) (pe_c C__law_draw hr (by decide) (by rfl) (pa_cons (pv 0) (pa_cons pe_int pa_nil))))
    (pss_cons (ps_if (pt_cmpR op_lt (pv 4) pe_int (nomark _))
      (pss_one (ps_ret (pe_c C__law_effect hr (by decide) (by rfl) (pa_cons (pv 0) (pa_cons (pv 1) (pa_cons pe_int (pa_cons pe_int pa_nil)))))))
      pss_nil)
    (pss_one (ps_ret (pe_ifExp (pt_cmpR op_lt (pv 4) pe_int (nomark _)) (pe_c C__law_wide_effect hr (by decide) (by rfl) (pa_cons (pv 0) (pa_cons (pv 1) (pa_cons pe_int (pa_cons (pv 2) pa_nil))))) (pe_c C__law_long_effect hr (by decide) (by rfl) (pa_cons (pv 0) (pa_cons (pv 1) (pa_cons (pv 3) pa_nil))))))))), ?_⟩
    refine ⟨_, rfl, p, c, 8, n, rfl, by decide, by decide, pen, by omega, fun r H1 r0 r9 k1 pen1 => ?_⟩
    have e6 : Int.toNat 6 = 6 := rfl
    refine ⟨_, rfl, r, 5, rfl, rfl, _, rfl, ite2 (fun _ => ?_) fun _ => ?_⟩
    · refine ⟨_, rfl, _, rfl, p, c, q, 6, 9, _, rfl, hq, hq2, by decide, by decide, by decide, by decide, pen1, by omega, fun v H2 g sh k2 pen2 hT d hsh => ?_⟩
      have e9 : (9 : Int).natAbs = 9 := rfl
      exact k v H2 g sh (k1.trans k2) (pen2.mono (by omega)) hT ⟨d.nf, Nat.le_trans d.len (by decide), fun t ht => Nat.le_trans (d.abs t ht) (by omega), by omega⟩
    · refine ⟨_, rfl, r, 7, rfl, rfl, _, rfl, ite2 (fun _ => ?_) fun _ => ?_⟩
      · refine ⟨_, rfl, _, rfl, _, rfl, p, c, q, 6, most, _, rfl, hq, hq2, by decide, by decide, hm, hm2, pen1, by omega, fun v H2 g sh k2 pen2 hT d => ?_⟩
        exact k v H2 g sh (k1.trans k2) (pen2.mono (by omega)) hT (d.up (by decide) (by omega))
      · refine ⟨_, rfl, _, rfl, _, rfl, p, c, q, many, _, rfl, hq, hq2, hy, hy2, pen1, by omega, fun v H2 g sh k2 pen2 hT d => ?_⟩
        exact k v H2 g sh (k1.trans k2) (pen2.mono (by omega)) hT (d.up (by omega) (by omega))
theorem sc__law_cost : FnScope ["_law_base_prime", "_law_coefficient"] ["_law_base_prime", "_law_coefficient"] (defScope s__law_cost) := ⟨rfl, rfl, rfl, by decide +kernel, rfl, by decide +kernel, by decide +kernel⟩
theorem ok__law_cost {f : Addr} {fd : FuncData} (F : Fun K "_law_cost" "_law_cost" s__law_cost f fd) (B : Blt mg) : FnOk P w K mg base CX0 1 f fd ["_law_base_prime", "_law_coefficient"] sp_cost := by
  refine F.ok sc__law_cost (fun vs H Q E h => ?_) (fun cdv A outer s H vs Q E hr h => ?_)
  · obtain ⟨p, v, rfl, _⟩ := h
    rfl
  · obtain ⟨p, v, rfl, h0, h9, k⟩ := h
    refine ⟨_, (pss_one (ps_ret (pe_callB (call_min2 rfl) (by rfl) B.min (by decide +kernel) (pa_cons (pe_op op_mod (pv 1) (pv 0)) (pa_cons (pe_op op_mod (pe_un un_neg (pv 1)) (pv 0)) pa_nil))))), ?_⟩
    have e1 : v % p = v := Int.emod_eq_of_lt (by omega) h9
    have e2 : -v % p = p - v := by
      rw [← Int.add_emod_right (-v) p, Int.emod_eq_of_lt (by omega) (by omega)]
      omega
    refine ⟨_, rfl, _, rfl, v, p, rfl, rfl, by omega, _, rfl, v, rfl, _, rfl, -v, p, rfl, rfl, by omega, v % p, -v % p, rfl, ?_⟩
    rw [e1, e2]
    exact k
theorem sc__law_ends : FnScope ["_law_an_effect", "_law_places", "_law_exponent", "_law_coefficient"] ["_law_an_effect"] (defScope s__law_ends) := ⟨rfl, rfl, rfl, by decide +kernel, rfl, by decide +kernel, by decide +kernel⟩
theorem ok__law_ends {f : Addr} {fd : FuncData} (F : Fun K "_law_ends" "_law_ends" s__law_ends f fd) (B : Blt mg) : FnOk P w K mg base CX0 1 f fd ["_law_an_effect"] (sp_reach K) := by
  refine F.ok sc__law_ends (fun vs H Q E h => ?_) (fun cdv A outer s H vs Q E hr h => ?_)
  · obtain ⟨v, g, m, rfl, _⟩ := h
    rfl
  · obtain ⟨v, g, m, rfl, ⟨a, x, rfl, hs, b, xs, rfl, hb, hP⟩, hl, k⟩ := h
    have nd := sc__law_ends.nd
    refine ⟨_, (pss_cons (ps_set (i := 1) nd rfl (.inl rfl) (pe_op op_cat (pe_lst (pa_cons pe_int (pa_cons (pe_ix ix_tup (pv 0) pe_int (fun _ _ => rfl)) pa_nil))) (pe_lc (own := [("_law_exponent", 2), ("_law_coefficient", 3)]) (g := gTup K 2 (gCons (gName 2) (gCons (gName 3) gNil))) (by rfl) nd (pi_tup (pe_ix ix_tup (pv 0) pe_int (fun _ _ => rfl))) (blkOk_by (N := ["_law_an_effect", "_law_places", "_law_exponent", "_law_coefficient"]) (sc := defScope s__law_ends) (own := [("_law_exponent", 2), ("_law_coefficient", 3)]) (by decide +kernel)) (fun _ _ _ _ _ => (pg_tup rfl (pgs_cons (pg_name (i := 2) nd rfl (.inl rfl) (.inr rfl)) (pgs_cons (pg_name (i := 3) nd rfl (.inl rfl) (.inr rfl)) pgs_nil)))) (fun _ _ _ _ _ => pts_nil) (fun _ _ _ _ _ => (pv 2)))))
    (pss_one (ps_ret (pe_tup (pa_cons (pe_callB (cr_min rfl) (by rfl) B.min (by decide +kernel) (pa_cons (pv 1) pa_nil)) (pa_cons (pe_callB (cr_max rfl) (by rfl) B.max (by decide +kernel) (pa_cons (pv 1) pa_nil)) pa_nil)))))), ?_⟩
    refine ⟨_, rfl, a, _, 1, _, rfl, rfl, hs, rfl, sl_of (show 2 ≤ 1000000 by decide), fun l nl => ?_⟩
    have s1 := same_new nl (o := HO.lst [V.int 0, V.int m])
    refine lcTi (K := K) (a := b) (·.1) (fun R r => ⟨_, rfl, a, _, 0, _, rfl, rfl, same_t s1 hs, rfl, r⟩) (same_t s1 hb) (Prs.tp (Same.tp s1) hP) hl (fun _ _ => rfl) (fun t _ H2 _ R r => ⟨_, rfl, r⟩) fun D H2 nD s2 hD => ?_
    refine ⟨l, D, _, _, rfl, rfl, s2 _ _ upd_same, hD, sl_of (show 2 + ((g.map (·.1)).map V.int).length ≤ 1000000 by rw [List.length_map, List.length_map]; omega), fun q nq => ?_⟩
    have hq : ∀ {H3 : Hp}, Same (upd H2 q (.lst ([V.int 0, V.int m] ++ (g.map (·.1)).map V.int))) H3 → SqL K H3 q ((0 :: places g m).map V.int) := fun s3 => SqL.of (s3 _ _ (show upd H2 q (.lst ((0 :: places g m).map V.int)) q = _ from upd_same))
    refine ⟨_, rfl, q, 0 :: places g m, rfl, hq (Same.refl _), Nat.succ_pos _, fun z hz hz2 => ?_⟩
    refine ⟨_, rfl, q, 0 :: places g m, rfl, hq (Same.refl _), Nat.succ_pos _, fun y hy hy2 => ?_⟩
    rw [loL_eq hz hz2, hiL_eq hy hy2]
    exact ⟨sl_of (show 2 ≤ 1000000 by decide), fun t nt => k t _ (s1.trans (s2.trans ((same_new nq).trans (same_new nt)))) (SqT.of upd_same)⟩
theorem sc__law_size : FnScope ["_law_base_prime", "_law_an_effect", "_law_low", "_law_high", "_law_turns", "_law_exponent", "_law_coefficient"] ["_law_base_prime", "_law_an_effect"] (defScope s__law_size) := ⟨rfl, rfl, rfl, by decide +kernel, rfl, by decide +kernel, by decide +kernel⟩
theorem ok__law_size {f : Addr} {fd : FuncData} (F : Fun K "_law_size" "_law_size" s__law_size f fd) (B : Blt mg) (C__law_cost : Cal P w K mg base 1 "_law_cost" sp_cost) (C__law_ends : Cal P w K mg base 1 "_law_ends" (sp_reach K)) : FnOk P w K mg base CX0 2 f fd ["_law_base_prime", "_law_an_effect"] (sp_size K) := by
  refine F.ok sc__law_size (fun vs H Q E h => ?_) (fun cdv A outer s H vs Q E hr h => ?_)
  · obtain ⟨p, v, g, m, rfl, _⟩ := h
    rfl
  · obtain ⟨p, v, g, m, rfl, hE, hl, hc, k⟩ := h
    obtain ⟨a, x, rfl, hs, b, xs, rfl, hb, hP⟩ := id hE
    have nd := sc__law_size.nd
    refine ⟨_, (pss_cons (ps_asg (pe_c C__law_ends hr (by decide) (by rfl) (pa_cons (pv 1) pa_nil)) (pg_tup rfl (pgs_cons (pg_name (i := 2) nd rfl (.inl rfl)) (pgs_cons (pg_name (i := 3) nd rfl (.inl rfl)) pgs_nil))))
    (pss_cons (ps_set (i := 4) nd rfl (.inl rfl) (pe_callB (cr_sum rfl) (by rfl) B.sum (by decide +kernel) (pa_cons (pe_lc (own := [("_law_exponent", 5), ("_law_coefficient", 6)]) (g := gTup K 2 (gCons (gName 5) (gCons (gName 6) gNil))) (by rfl) nd (pi_tup (pe_ix ix_tup (pv 1) pe_int (fun _ _ => rfl))) (blkOk_by (N := ["_law_base_prime", "_law_an_effect", "_law_low", "_law_high", "_law_turns", "_law_exponent", "_law_coefficient"]) (sc := defScope s__law_size) (own := [("_law_exponent", 5), ("_law_coefficient", 6)]) (by decide +kernel)) (fun _ _ _ _ _ => (pg_tup rfl (pgs_cons (pg_name (i := 5) nd rfl (.inl rfl) (.inr rfl)) (pgs_cons (pg_name (i := 6) nd rfl (.inl rfl) (.inr rfl)) pgs_nil)))) (fun _ _ _ _ _ => pts_nil) (fun _ _ _ _ _ => (pe_c C__law_cost hr (by decide) (by rfl) (pa_cons (pv 0) (pa_cons (pv 6) pa_nil))))) pa_nil)))
    (pss_one (ps_ret (pe_op op_add (pe_op op_sub (pe_op op_mul pe_int (pe_op op_sub (pv 3) (pv 2))) (pe_callB call_abs (by rfl) B.abs (by decide +kernel) (pa_cons (pe_ix ix_tup (pv 1) pe_int (fun _ _ => rfl)) pa_nil))) (pv 4)))))), ?_⟩
    refine ⟨_, rfl, _, g, m, rfl, hE, hl, fun t H1 s1 ht => ?_⟩
    refine ⟨t, _, rfl, ht, rfl, _, _, rfl, _, _, rfl, rfl, ?_⟩
    dsimp only [tNext, tSeq, tAsg, tCB, tCons, tNil]
    refine lcTi (K := K) (a := b) (fun u => ft p u.2) (fun R r => ⟨_, rfl, a, _, 0, _, rfl, rfl, same_t s1 hs, rfl, r⟩) (same_t s1 hb) (Prs.tp (Same.tp s1) hP) hl (fun _ _ => rfl) (fun u hu H2 _ R r => ⟨_, rfl, _, rfl, p, u.2, rfl, (hc u hu).1, (hc u hu).2, r⟩) fun D H2 nD s2 hD => ?_
    refine ⟨D, g.map (fun u => ft p u.2), rfl, SqL.of hD, ?_⟩
    exact ⟨_, rfl, _, rfl, _, _, rfl, rfl, 2, _, rfl, rfl, .inl ⟨by decide, by decide⟩, _, rfl, a, _, 1, _, rfl, rfl, same_t (s1.trans s2) hs, rfl, _, rfl, _, _, rfl, rfl, _, rfl, _, _, rfl, rfl, k H2 (s1.trans s2)⟩
theorem sc_law : FnScope ["_law_script", "_law_pen_here", "_law_earlier", "_law_turn", "_law_base_prime", "_law_an_effect", "_law_spot", "_law_dial", "_law_case", "_law_known"] ["_law_script"] (defScope s_law) := ⟨rfl, rfl, rfl, by decide +kernel, rfl, by decide +kernel, by decide +kernel⟩
theorem sum_bd : ∀ (l : List Int) (b : Nat), (∀ x ∈ l, x.natAbs ≤ b) → l.sum.natAbs ≤ b * l.length
  | [], b, _ => Nat.zero_le _
  | x :: r, b, h => by
    have h1 := h x List.mem_cons_self
    have h2 := sum_bd r b fun y hy => h y (List.mem_cons_of_mem _ hy)
    rw [List.sum_cons, List.length_cons, Nat.mul_add, Nat.mul_one]
    omega
theorem places_bd {f : Pol} {m : Int} {B : Nat} (hf : ∀ t ∈ f, t.1.natAbs ≤ B) (hm : m.natAbs ≤ B) : ∀ x ∈ 0 :: places f m, x.natAbs ≤ B := fun x hx => by
  rcases List.mem_cons.mp hx with e | hx
  · rw [e]; exact Nat.zero_le _
  rcases List.mem_cons.mp hx with e | hx
  · rw [e]; exact hm
  obtain ⟨t, ht, rfl⟩ := List.mem_map.mp hx
  exact hf t ht
theorem lenE_bd {p : Int} {f : Pol} {m : Int} {B : Nat} (hf : ∀ t ∈ f, t.1.natAbs ≤ B) (hm : m.natAbs ≤ B) (hc : ∀ t ∈ f, 0 < t.2 ∧ t.2 < p) (hp : p ≤ 97) : (lenE p f m).natAbs ≤ 5 * B + 97 * f.length := by
  have h1 := places_bd hf hm _ (loL_mem 0 (places f m))
  have h2 := places_bd hf hm _ (hiL_mem 0 (places f m))
  have h3 : (turnsOf p f).natAbs ≤ 97 * (f.map fun t => ft p t.2).length := sum_bd _ 97 fun x hx => by
    obtain ⟨t, ht, rfl⟩ := List.mem_map.mp hx
    have := hc t ht
    show (ft p t.2).natAbs ≤ 97
    unfold ft
    split <;> omega
  rw [List.length_map] at h3
  unfold lenE absI
  show (2 * (hiL 0 (places f m) - loL 0 (places f m)) - _ + _).natAbs ≤ _
  split <;> omega
def ItemE (K : PySem.W.Frag) (H : Hp) (v : V) : Prop := ∃ b q w g m, v = .ref b ∧ SqT K H b [.int q, w] ∧ TEff K H w g m ∧ 2 ≤ q ∧ q ≤ 97 ∧ DrE q g m 1000 (10 ^ 31)
theorem ItemE.tp {H H' : Hp} {v : V} (t : Tp H H') (h : ItemE K H v) : ItemE K H' v := by
  obtain ⟨b, q, w, g, m, e, hs, hT, r⟩ := h
  exact ⟨b, q, w, g, m, e, tp_t t hs, hT.tp t, r⟩
def CaseE (K : PySem.W.Frag) (q : Int) (H : Hp) (v : V) : Prop := ∃ g m, TEff K H v g m ∧ DrE q g m 1000 (10 ^ 31)
theorem CaseE.tp {q : Int} {H H' : Hp} {v : V} (t : Tp H H') (h : CaseE K q H v) : CaseE K q H' v := by
  obtain ⟨g, m, hT, r⟩ := h
  exact ⟨g, m, hT.tp t, r⟩
theorem dre_len {q : Int} {g : Pol} {m : Int} (hq : q ≤ 97) (d : DrE q g m 1000 (10 ^ 31)) : (lenE q g m).natAbs < 10 ^ 100 := by
  have h := lenE_bd d.abs d.sh d.nf.rng hq
  have h2 := d.len
  have h3 : 5 * 10 ^ 31 + 97 * 1000 < 10 ^ 100 := by decide +kernel
  omega
theorem sqt_new {H : Hp} {T : Addr} (n : H T = none) (xs : List V) : SqT K (upd H T (.tup xs)) T xs := SqT.of upd_same
theorem law_ok {f : Addr} {fd : FuncData} (F : Fun K "law" "law" s_law f fd) (B : Blt mg) (C__law_pen : Cal P w K mg base 1 "_law_pen" (sp__law_pen K)) (C__law_draw : Cal P w K mg base 1 "_law_draw" sp__law_draw) (C__law_pick : Cal P w K mg base 2 "_law_pick" sp__law_pick) (C__law_prime : Cal P w K mg base 3 "_law_prime" sp__law_prime) (C__law_integer : Cal P w K mg base 2 "_law_integer" sp__law_integer) (C__law_any_effect : Cal P w K mg base 5 "_law_any_effect" (sp__law_any_effect K)) (C__law_wide : Cal P w K mg base 3 "_law_wide" sp__law_wide)
    (C_length : Cal P w K mg base 2 "length" (sp_length K)) (C__law_size : Cal P w K mg base 2 "_law_size" (sp_size K)) (W_length : CalW P w K mg base 2 "length" "effect" "prime" (sp_length K)) : Kept P w K mg base f fd ["_law_script"] (sp_law K) := by
  refine kept_of (k := 5) F sc_law (fun vs H Q E h => ?_) ⟨rfl, by decide, by decide⟩ (fun cdv s H vs Q E hr h => ?_)
  · obtain ⟨a, ns, rfl, _⟩ := h
    rfl
  · obtain ⟨a, ns, rfl, hS, hlen, k⟩ := h
    have nd := sc_law.nd
    have hu2 := hr.units
    have hg : (callerA.deeper (envOfC "law" (defScope s_law) s.heap.objs.size f cdv)).guards = some [] := rfl
    have hu0 : (callerA.deeper (envOfC "law" (defScope s_law) s.heap.objs.size f cdv)).units + 100 < cLine := by
      have := hr.un
      omega
    refine ⟨_, (pss_cons (ps_par (i := 1) (j := 2) (by rfl) nd rfl rfl (by decide) rfl rfl (pa_cons (pe_c C__law_pen hr (by decide) (by rfl) (pa_cons (pv 0) pa_nil)) (pa_cons (pe_lst pa_nil) pa_nil)) (by rfl))
    (pss_cons (ps_for PassesOwn.never rfl (pi_range1 (by rfl) B.range (pa_cons (pe_op op_add pe_int (pe_callB (call_min2 rfl) (by rfl) B.min (by decide +kernel) (pa_cons pe_int (pa_cons (pe_callB call_len_seq (by rfl) B.len (by decide +kernel) (pa_cons (pv 0) pa_nil)) pa_nil)))) pa_nil)) (pg_name (i := 3) nd rfl (.inl rfl))
      (pss_cons (ps_set (i := 4) nd rfl (.inl rfl) (pe_c C__law_prime hr (by decide) (by rfl) (pa_cons (pv 1) pa_nil)))
    (pss_cons (ps_par (i := 5) (j := 6) (by rfl) nd rfl rfl (by decide) rfl rfl (pa_cons (pe_c C__law_any_effect hr (by decide) (by rfl) (pa_cons (pv 1) (pa_cons (pv 4) (pa_cons (pe_op op_pow pe_int pe_int) (pa_cons pe_int pa_nil))))) (pa_cons (pe_c C__law_wide hr (by decide) (by rfl) (pa_cons (pv 1) (pa_cons (pe_op op_pow pe_int pe_int) pa_nil))) pa_nil)) (by rfl))
    (pss_cons (ps_set (i := 7) nd rfl (.inl rfl) (pe_tup (pa_cons (pe_tup (pa_cons (pv 6) (pa_cons (pe_op op_add pe_int (pe_c C__law_draw hr (by decide) (by rfl) (pa_cons (pv 1) (pa_cons (pe_op op_sub (pv 4) pe_int) pa_nil)))) pa_nil))) pa_nil)))
    (pss_cons (ps_for PassesOwn.never rfl (pi_tup (pe_tup (pa_cons (pv 5) (pa_cons (pe_tup (pa_cons (pv 7) (pa_cons pe_int pa_nil))) (pa_cons (pe_tup (pa_cons (pe_tup pa_nil) (pa_cons (pv 6) pa_nil))) (pa_cons (pe_tup (pa_cons (pv 7) (pa_cons (pe_c C__law_integer hr (by decide) (by rfl) (pa_cons (pv 1) (pa_cons pe_int pa_nil))) pa_nil))) (pa_cons (pe_tup (pa_cons (pe_tup pa_nil) (pa_cons pe_int pa_nil))) pa_nil))))))) (pg_name (i := 8) nd rfl (.inl rfl))
      (pss_one (ps_if (pt_cmpR op_ne (pe_callB (call_reprX hg hu0) (by rfl) B.repr (by decide +kernel) (pa_cons (pe_c C_length hr (by decide) (by rfl) (pa_cons (pv 4) (pa_cons (pv 8) pa_nil))) pa_nil)) (pe_callB (call_reprX hg hu0) (by rfl) B.repr (by decide +kernel) (pa_cons (pe_c C__law_size hr (by decide) (by rfl) (pa_cons (pv 4) (pa_cons (pv 8) pa_nil))) pa_nil)) (nomark _))
      (pss_one (ps_ret pe_bl))
      pss_nil)))
    (pss_cons (ps_expr (pe_bm PySem.F.plainAttrs_list PySem.F.slot_list_append PySem.F.type_list_append mt_append (pv 2) (pa_cons (pe_tup (pa_cons (pv 4) (pa_cons (pv 5) pa_nil))) pa_nil)))
    (pss_cons (ps_asg (pe_c C__law_pick hr (by decide) (by rfl) (pa_cons (pv 1) (pa_cons (pv 2) pa_nil))) (pg_tup rfl (pgs_cons (pg_name (i := 9) nd rfl (.inl rfl)) (pgs_cons (pg_name (i := 8) nd rfl (.inl rfl)) pgs_nil))))
    (pss_one (ps_if (pt_cmpR op_ne (pe_cw W_length hr (by decide) (by rfl) (pk_cons (pv 8) (pk_cons (pv 9) pk_nil))) (pe_c C__law_size hr (by decide) (by rfl) (pa_cons (pv 9) (pa_cons (pv 8) pa_nil))) (nomark _))
      (pss_one (ps_ret pe_bl))
      pss_nil)))))))))
    (pss_one (ps_ret pe_bl)))), ?_⟩
    refine ⟨_, rfl, a, ns, rfl, hS, fun p c H1 np s1 pen1 => ?_⟩
    refine ⟨Nat.zero_le _, fun E nE => ?_⟩
    refine ⟨_, _, rfl, ?_⟩
    have sE := same_new nE (o := HO.lst [])
    have npE : E ≠ p := pen1.np nE
    have ncE : E ≠ c := pen1.nc nE
    have pen2 := pen1.same sE
    have hS2 := same_l (s1.trans sE) hS
    have hmin : (if ((ns.map V.int).length : Int) < 4 then ((ns.map V.int).length : Int) else 4) ≤ 4 ∧ 0 ≤ (if ((ns.map V.int).length : Int) < 4 then ((ns.map V.int).length : Int) else 4) := by
      split <;> omega
    refine ⟨_, rfl, a, _, rfl, .inl hS2, 4, _, rfl, 4, _, rfl, rfl, _, rfl, ?_⟩
    generalize (if ((ns.map V.int).length : Int) < 4 then ((ns.map V.int).length : Int) else 4) = N at hmin
    refine ⟨by omega, by omega, for_range (lo := 0) (n := (4 + N).toNat) (fun i σ H2 => ∃ (y3 y4 y5 y6 y7 y8 y9 : Option V) (xs : List V), σ = [some (.ref a), some (.ref p), some (.ref E), y3, y4, y5, y6, y7, y8, y9] ∧ PenAt H2 p c (100 * i) ∧ H2 E = some (.lst xs) ∧ xs.length = i ∧ ∀ v ∈ xs, ItemE K H2 v) ⟨none, none, none, none, none, none, none, [], rfl, pen2, upd_same, rfl, fun v h => absurd h List.not_mem_nil⟩ ?_ ?_⟩
    · rintro i σ H2 hi ⟨y3, y4, y5, y6, y7, y8, y9, xs, rfl, pen2, hE, hxl, hI⟩
      refine ⟨_, rfl, p, c, 100 * i, rfl, pen2, by omega, fun q H3 hq k3 pen3 => ?_⟩
      obtain ⟨hq1, hq2⟩ := prime_rng q hq
      refine ⟨_, rfl, _, rfl, 10, 30, rfl, rfl, ⟨by decide, by decide, by decide⟩, p, c, q, 10 ^ 30, 400, _, rfl, hq1, hq2, by decide, by decide, by decide, by decide, pen3, by omega, fun ve H4 g m k4 pen4 hT4 dr => ?_⟩
      have dr : DrE q g m 1000 (10 ^ 31) := ⟨dr.nf, dr.len, fun t ht => Nat.le_trans (dr.abs t ht) (by decide +kernel), Nat.le_trans dr.sh (by decide +kernel)⟩
      refine ⟨_, rfl, 10, 30, rfl, rfl, ⟨by decide, by decide, by decide⟩, p, c, 10 ^ 30, _, rfl, by decide, by decide, pen4, by omega, fun spot H5 hspot k5 pen5 => ?_⟩
      have hspot : spot.natAbs ≤ 10 ^ 31 := Nat.le_trans hspot (by decide +kernel)
      refine ⟨_, _, rfl, ?_⟩
      refine ⟨_, rfl, _, rfl, _, rfl, q, 1, rfl, rfl, p, c, q - 1, _, rfl, by omega, Nat.lt_of_le_of_lt (show (q - 1).natAbs ≤ 97 by omega) (by decide), pen5, by omega, fun r H6 r0 r9 k6 pen6 => ?_⟩
      refine ⟨1, r, rfl, rfl, sl_of (show 2 ≤ 1000000 by decide), fun t1 n1 => ?_⟩
      refine ⟨sl_of (show 1 ≤ 1000000 by decide), fun t2 n2 => ?_⟩
      have z1 := same_new n1 (o := HO.tup [V.int spot, V.int (1 + r)])
      have z2 := same_new n2 (o := HO.tup [V.ref t1])
      have hd : TPol K _ (V.ref t2) [(spot, 1 + r)] := ⟨t2, _, rfl, SqT.of (upd_same (H := upd H6 t1 (HO.tup [V.int spot, V.int (1 + r)])) (o := HO.tup [V.ref t1])), .cons (IsPr.tp (tp_new n2) (isPr_new (t := (spot, 1 + r)))) .nil⟩
      have hN : Nf q [(spot, 1 + r)] (cf [(spot, 1 + r)]) := nf_one (by omega) (by omega)
      have hb1 : ∀ t ∈ [(spot, 1 + r)], t.1.natAbs ≤ 10 ^ 31 := fun t ht => by
        cases List.mem_singleton.mp ht
        exact hspot
      refine ⟨_, rfl, _, rfl, sl_of (show 2 ≤ 1000000 by decide), fun u1 m1 => ?_⟩
      have w1 := same_new m1 (o := HO.tup [V.ref t2, V.int 0])
      have c1 : CaseE K q _ (V.ref u1) := ⟨_, 0, ⟨u1, _, rfl, SqT.of (upd_same (o := HO.tup [V.ref t2, V.int 0])), hd.tp (Same.tp w1)⟩, hN, (show 1 ≤ 1000 by decide), hb1, Nat.zero_le _⟩
      refine ⟨sl_of (show 0 ≤ 1000000 by decide), fun u2 m2 => ?_⟩
      have w2 := same_new m2 (o := HO.tup [])
      refine ⟨_, rfl, sl_of (show 2 ≤ 1000000 by decide), fun u3 m3 => ?_⟩
      have w3 := same_new m3 (o := HO.tup [V.ref u2, V.int spot])
      have hN0 : Nf q [] (cf []) := nf_nil fun _ => rfl
      have c2 : CaseE K q _ (V.ref u3) := ⟨[], spot, ⟨u3, _, rfl, SqT.of (upd_same (o := HO.tup [V.ref u2, V.int spot])), u2, [], rfl, SqT.of (w3 _ _ upd_same), .nil⟩, hN0, Nat.zero_le _, fun t h => absurd h List.not_mem_nil, hspot⟩
      have S6 := z1.trans (z2.trans (w1.trans (w2.trans w3)))
      have pen7 := pen6.same S6
      refine ⟨_, rfl, _, rfl, p, c, 5, _, rfl, by decide, by decide, pen7, by omega, fun i5 H7 hi5 k7 pen8 => ?_⟩
      have hi5 : i5.natAbs ≤ 10 ^ 31 := Nat.le_trans hi5 (by decide +kernel)
      refine ⟨sl_of (show 2 ≤ 1000000 by decide), fun u4 m4 => ?_⟩
      have w4 := same_new m4 (o := HO.tup [V.ref t2, V.int i5])
      have hd7 := (hd.tp (Same.tp (w1.trans (w2.trans w3)))).tp (pen7.tp k7)
      have c3 : CaseE K q _ (V.ref u4) := ⟨_, i5, ⟨u4, _, rfl, SqT.of (upd_same (o := HO.tup [V.ref t2, V.int i5])), hd7.tp (Same.tp w4)⟩, hN, (show 1 ≤ 1000 by decide), hb1, hi5⟩
      refine ⟨sl_of (show 0 ≤ 1000000 by decide), fun u5 m5 => ?_⟩
      have w5 := same_new m5 (o := HO.tup [])
      refine ⟨sl_of (show 2 ≤ 1000000 by decide), fun u6 m6 => ?_⟩
      have w6 := same_new m6 (o := HO.tup [V.ref u5, V.int 0])
      have c4 : CaseE K q _ (V.ref u6) := ⟨[], 0, ⟨u6, _, rfl, SqT.of (upd_same (o := HO.tup [V.ref u5, V.int 0])), u5, [], rfl, SqT.of (w6 _ _ upd_same), .nil⟩, hN0, Nat.zero_le _, fun t h => absurd h List.not_mem_nil, Nat.zero_le _⟩
      refine ⟨sl_of (show 5 ≤ 1000000 by decide), fun T nT => ?_⟩
      have w7 := same_new nT (o := HO.tup [ve, V.ref u1, V.ref u3, V.ref u4, V.ref u6])
      have S7 := w4.trans (w5.trans (w6.trans w7))
      have t47 : Tp H4 H7 := (pen4.tp (k5.trans (k6.trans ((Same.kp S6).trans k7))))
      have c0 : CaseE K q _ ve := ⟨g, m, hT4.tp (t47.trans (Same.tp S7)), dr⟩
      have C1 := c1.tp ((Same.tp (w2.trans w3)).trans ((pen7.tp k7).trans (Same.tp S7)))
      have C2 := c2.tp ((pen7.tp k7).trans (Same.tp S7))
      have C3 := c3.tp (Same.tp (w5.trans (w6.trans w7)))
      have C4 := c4.tp (Same.tp w7)
      have hTT := sqt_new (K := K) nT [ve, V.ref u1, V.ref u3, V.ref u4, V.ref u6]
      have pen9 := pen8.same S7
      refine ⟨T, rfl, ⟨_, hTT⟩, for_tup (K := K) (a := T) (xs := [ve, V.ref u1, V.ref u3, V.ref u4, V.ref u6]) (fun j σ H8 => ∃ y8, σ = [some (.ref a), some (.ref p), some (.ref E), some (.int (0 + (i : Int))), some (.int q), some ve, some (.int spot), some (.ref t2), y8, y9] ∧ Same _ H8) ⟨_, rfl, Same.refl _⟩ ?_ ?_ ?_⟩
      · rintro j σ H8 _ ⟨y8, _, s8⟩
        exact same_t s8 hTT
      · rintro j x σ H8 hj ⟨y8, rfl, s8⟩
        have hx : CaseE K q H8 x := by
          have hm := List.mem_of_getElem? hj
          rcases List.mem_cons.mp hm with e | hm
          · rw [e]; exact c0.tp (Same.tp s8)
          rcases List.mem_cons.mp hm with e | hm
          · rw [e]; exact C1.tp (Same.tp s8)
          rcases List.mem_cons.mp hm with e | hm
          · rw [e]; exact C2.tp (Same.tp s8)
          rcases List.mem_cons.mp hm with e | hm
          · rw [e]; exact C3.tp (Same.tp s8)
          rcases List.mem_cons.mp hm with e | hm
          · rw [e]; exact C4.tp (Same.tp s8)
          exact absurd hm List.not_mem_nil
        obtain ⟨g', m', hT', d'⟩ := hx
        have hb := dre_len hq2 d'
        refine ⟨_, rfl, _, rfl, q, x, g', m', rfl, hT', Nat.le_trans d'.len (by decide), fun H9 s9 => ?_⟩
        refine ⟨_, .int _, rfl, .inl (.int _), (int_shows hb).1, (fun e => by cases e), Nat.zero_le _, sl_of (Nat.le_trans (int_shows hb).2 (by decide)), ?_⟩
        refine ⟨_, rfl, _, rfl, q, x, g', m', rfl, hT'.tp (Same.tp s9), Nat.le_trans d'.len (by decide), d'.nf.rng, fun H10 s10 => ?_⟩
        refine ⟨_, .int _, rfl, .inl (.int _), (int_shows hb).1, (fun e => by cases e), Nat.zero_le _, sl_of (Nat.le_trans (int_shows hb).2 (by decide)), ?_⟩
        refine ⟨rfl, _, rfl, iteNS rfl ?_⟩
        exact ⟨_, rfl, s8.trans (s9.trans s10)⟩
      · rintro σ H8 ⟨y8, rfl, s8⟩
        have kE : Kp p H2 H8 := k3.trans (k4.trans (k5.trans (k6.trans ((Same.kp S6).trans (k7.trans ((Same.kp S7).trans (Same.kp s8)))))))
        have hE8 : H8 E = some (.lst xs) := kE _ _ npE hE
        have pen10 := pen9.same s8
        have hT8 : TEff K H8 ve g m := hT4.tp (t47.trans ((Same.tp S7).trans (Same.tp s8)))
        refine ⟨_, rfl, .inl ⟨rfl, _, SqL.of hE8⟩, _, rfl, _, rfl, sl_of (show 2 ≤ 1000000 by decide), fun b nb => ?_⟩
        have v1 := same_new nb (o := HO.tup [V.int q, ve])
        have hE9 := v1 _ _ hE8
        refine ⟨E, xs, _, rfl, rfl, hE9, sl_lt (by omega), ?_⟩
        have t2' : Tp (upd H8 b (HO.tup [V.int q, ve])) (upd (upd H8 b (HO.tup [V.int q, ve])) E (.lst (xs ++ [.ref b]))) := tp_lst hE9
        have pen11 := (pen10.same v1).upd (o := HO.lst (xs ++ [V.ref b])) npE ncE
        have hI9 : ∀ v ∈ xs ++ [V.ref b], ItemE K (upd (upd H8 b (HO.tup [V.int q, ve])) E (.lst (xs ++ [.ref b]))) v := fun v hv => by
          rcases List.mem_append.mp hv with h | h
          · exact (hI v h).tp ((pen2.tp kE).trans ((Same.tp v1).trans t2'))
          · have e : v = .ref b := by simpa using h
            rw [e]
            exact ⟨b, q, ve, g, m, rfl, tp_t t2' (SqT.of upd_same), hT8.tp ((Same.tp v1).trans t2'), hq1, hq2, dr⟩
        refine ⟨_, rfl, _, rfl, p, c, E, _, _, rfl, pen11, by omega, upd_same, by rw [List.length_append]; exact Nat.succ_pos _, by rw [List.length_append, hxl]; show i + 1 ≤ 100000; omega, fun v H10 hv k10 pen12 => ?_⟩
        obtain ⟨b', q', w', g', m', rfl, hs', hT', hq1', hq2', d'⟩ := (hI9 v hv).tp (pen11.tp k10)
        refine ⟨b', _, rfl, hs', rfl, _, _, rfl, _, _, rfl, rfl, ?_⟩
        refine ⟨_, rfl, _, rfl, q', w', g', m', rfl, hT', Nat.le_trans d'.len (by decide), fun H11 s11 => ?_⟩
        refine ⟨_, rfl, _, rfl, q', w', g', m', rfl, hT'.tp (Same.tp s11), Nat.le_trans d'.len (by decide), d'.nf.rng, fun H12 s12 => ?_⟩
        refine ⟨rfl, _, rfl, iteNS rfl ?_⟩
        have s13 := s11.trans s12
        refine ⟨_, _, _, _, _, _, _, xs ++ [V.ref b], rfl, (pen12.same s13).mono (by omega), s13 _ _ (k10 _ _ npE upd_same), by rw [List.length_append, hxl]; rfl, fun u hu => (hI9 u hu).tp ((pen11.tp k10).trans (Same.tp s13))⟩
    · rintro σ H2 ⟨y3, y4, y5, y6, y7, y8, y9, xs, rfl, _⟩
      exact k H2
end
theorem all_mk {l : PySem.W.OpenLaw} {w : World} {K : PySem.W.Frag} {mg : Str → Option Value} {fa : Addr} (hfa : mg "law" = some (.ref fa)) (B : Blt mg)
    (D_fewest_turns : Df K mg "fewest_turns" s_fewest_turns)
    (D_reach : Df K mg "reach" s_reach)
    (D_length : Df K mg "length" s_length)
    (D__law_pen : Df K mg "_law_pen" s__law_pen)
    (D__law_draw : Df K mg "_law_draw" s__law_draw)
    (D__law_pick : Df K mg "_law_pick" s__law_pick)
    (D__law_prime : Df K mg "_law_prime" s__law_prime)
    (D__law_integer : Df K mg "_law_integer" s__law_integer)
    (D__law_normal : Df K mg "_law_normal" s__law_normal)
    (D__law_polynomial : Df K mg "_law_polynomial" s__law_polynomial)
    (D__law_effect : Df K mg "_law_effect" s__law_effect)
    (D__law_wide : Df K mg "_law_wide" s__law_wide)
    (D__law_wide_effect : Df K mg "_law_wide_effect" s__law_wide_effect)
    (D__law_long_effect : Df K mg "_law_long_effect" s__law_long_effect)
    (D__law_any_effect : Df K mg "_law_any_effect" s__law_any_effect)
    (D__law_cost : Df K mg "_law_cost" s__law_cost)
    (D__law_ends : Df K mg "_law_ends" s__law_ends)
    (D__law_size : Df K mg "_law_size" s__law_size)
    (D_law : Df K mg "law" s_law) : ∃ fd : FuncData, (∀ (s : Shared) (v : Value), BindsTo s fd ⟨[v], []⟩ [("_law_script", v)]) ∧ ∀ base : Heap, K.In base → base.Ns mainGlobals mg → Kept l.prog w K mg base fa fd ["_law_script"] (sp_law K) := by
  refine law_of hfa D_law (fun _ _ _ _ _ _ s v => .of_eq rfl) fun base f fd F => ?_
  have C_fewest_turns : Cal l.prog w K mg base 1 "fewest_turns" sp_fewest_turns := cal_of (ps := ["prime", "value"]) D_fewest_turns (fun _ _ _ _ _ _ us hl => match us, hl with | [_, _], _ => rfl) fun f fd F => ok_fewest_turns F B
  have C_reach : Cal l.prog w K mg base 1 "reach" (sp_reach K) := cal_of (ps := ["effect"]) D_reach (fun _ _ _ _ _ _ us hl => match us, hl with | [_], _ => rfl) fun f fd F => ok_reach F B
  have C_length : Cal l.prog w K mg base 2 "length" (sp_length K) := cal_of (ps := ["prime", "effect"]) D_length (fun _ _ _ _ _ _ us hl => match us, hl with | [_, _], _ => rfl) fun f fd F => ok_length F B C_fewest_turns C_reach
  have C__law_pen : Cal l.prog w K mg base 1 "_law_pen" (sp__law_pen K) := cal_of (ps := ["_law_script"]) D__law_pen (fun _ _ _ _ _ _ us hl => match us, hl with | [_], _ => rfl) fun f fd F => ok__law_pen F B
  have C__law_draw : Cal l.prog w K mg base 1 "_law_draw" sp__law_draw := cal_of (ps := ["_law_pen_here", "_law_many"]) D__law_draw (fun _ _ _ _ _ _ us hl => match us, hl with | [_, _], _ => rfl) fun f fd F => ok__law_draw F B
  have C__law_pick : Cal l.prog w K mg base 2 "_law_pick" sp__law_pick := cal_of (ps := ["_law_pen_here", "_law_options"]) D__law_pick (fun _ _ _ _ _ _ us hl => match us, hl with | [_, _], _ => rfl) fun f fd F => ok__law_pick F B C__law_draw
  have C__law_prime : Cal l.prog w K mg base 3 "_law_prime" sp__law_prime := cal_of (ps := ["_law_pen_here"]) D__law_prime (fun _ _ _ _ _ _ us hl => match us, hl with | [_], _ => rfl) fun f fd F => ok__law_prime F B C__law_pick
  have C__law_integer : Cal l.prog w K mg base 2 "_law_integer" sp__law_integer := cal_of (ps := ["_law_pen_here", "_law_most"]) D__law_integer (fun _ _ _ _ _ _ us hl => match us, hl with | [_, _], _ => rfl) fun f fd F => ok__law_integer F B C__law_draw
  have C__law_normal : Cal l.prog w K mg base 1 "_law_normal" (sp_normalize K) := cal_of (ps := ["_law_base_prime", "_law_pairs"]) D__law_normal (fun _ _ _ _ _ _ us hl => match us, hl with | [_, _], _ => rfl) fun f fd F => ok__law_normal F B
  have C__law_polynomial : Cal l.prog w K mg base 3 "_law_polynomial" (sp__law_polynomial K) := cal_of (ps := ["_law_pen_here", "_law_base_prime", "_law_terms", "_law_reach"]) D__law_polynomial (fun _ _ _ _ _ _ us hl => match us, hl with | [_, _, _, _], _ => rfl) fun f fd F => ok__law_polynomial F B C__law_draw C__law_integer C__law_normal
  have C__law_effect : Cal l.prog w K mg base 4 "_law_effect" (sp__law_effect K) := cal_of (ps := ["_law_pen_here", "_law_base_prime", "_law_terms", "_law_reach"]) D__law_effect (fun _ _ _ _ _ _ us hl => match us, hl with | [_, _, _, _], _ => rfl) fun f fd F => ok__law_effect F B C__law_draw C__law_integer C__law_polynomial
  have C__law_wide : Cal l.prog w K mg base 3 "_law_wide" sp__law_wide := cal_of (ps := ["_law_pen_here", "_law_most"]) D__law_wide (fun _ _ _ _ _ _ us hl => match us, hl with | [_, _], _ => rfl) fun f fd F => ok__law_wide F B C__law_draw C__law_pick
  have C__law_wide_effect : Cal l.prog w K mg base 4 "_law_wide_effect" (sp__law_wide_effect K) := cal_of (ps := ["_law_pen_here", "_law_base_prime", "_law_terms", "_law_most"]) D__law_wide_effect (fun _ _ _ _ _ _ us hl => match us, hl with | [_, _, _, _], _ => rfl) fun f fd F => ok__law_wide_effect F B C__law_draw C__law_pick C__law_integer C__law_normal C__law_wide
  have C__law_long_effect : Cal l.prog w K mg base 3 "_law_long_effect" (sp__law_long_effect K) := cal_of (ps := ["_law_pen_here", "_law_base_prime", "_law_many"]) D__law_long_effect (fun _ _ _ _ _ _ us hl => match us, hl with | [_, _, _], _ => rfl) fun f fd F => ok__law_long_effect F B C__law_draw C__law_integer C__law_normal
  have C__law_any_effect : Cal l.prog w K mg base 5 "_law_any_effect" (sp__law_any_effect K) := cal_of (ps := ["_law_pen_here", "_law_base_prime", "_law_most", "_law_many"]) D__law_any_effect (fun _ _ _ _ _ _ us hl => match us, hl with | [_, _, _, _], _ => rfl) fun f fd F => ok__law_any_effect F B C__law_draw C__law_effect C__law_wide_effect C__law_long_effect
  have C__law_cost : Cal l.prog w K mg base 1 "_law_cost" sp_cost := cal_of (ps := ["_law_base_prime", "_law_coefficient"]) D__law_cost (fun _ _ _ _ _ _ us hl => match us, hl with | [_, _], _ => rfl) fun f fd F => ok__law_cost F B
  have C__law_ends : Cal l.prog w K mg base 1 "_law_ends" (sp_reach K) := cal_of (ps := ["_law_an_effect"]) D__law_ends (fun _ _ _ _ _ _ us hl => match us, hl with | [_], _ => rfl) fun f fd F => ok__law_ends F B
  have C__law_size : Cal l.prog w K mg base 2 "_law_size" (sp_size K) := cal_of (ps := ["_law_base_prime", "_law_an_effect"]) D__law_size (fun _ _ _ _ _ _ us hl => match us, hl with | [_, _], _ => rfl) fun f fd F => ok__law_size F B C__law_cost C__law_ends
  have W_length : CalW l.prog w K mg base 2 "length" "effect" "prime" (sp_length K) := calw_of D_length (fun _ _ _ _ _ _ _ _ => rfl) fun f fd F => ok_length F B C_fewest_turns C_reach
  exact law_ok F B C__law_pen C__law_draw C__law_pick C__law_prime C__law_integer C__law_any_effect C__law_wide C_length C__law_size W_length
end DR
open PySem PySem.W PyProof.Rows
set_option maxRecDepth 100000 in
set_option maxHeartbeats 0 in
theorem PySem.Challenge.cw_dialroad_k49_lengths_by_the_formula_holds : PySem.Challenge.rw_dialroad_k49_lengths_by_the_formula.Holds := by
  w_on; o_law; k_head; (case hw => w_witness2)
  k_fill
  refine DR.walk_kept (l := PySem.Challenge.rw_dialroad_k49_lengths_by_the_formula) (sp := DR.sp_law) (x := "_law_script") rfl rfl (fun w h Y => PySem.W.kIn_of Y) ?F fun K H a ns hl hS => ⟨a, ns, rfl, hS, hl, fun _ => rfl⟩
  case F =>
    intro w mg fa h KX G hmg
    refine' DR.all_mk hmg ⟨PySem.W.mg_none_of KX G ?z_tuple, PySem.W.mg_none_of KX G ?z_sorted, PySem.W.mg_none_of KX G ?z_range, PySem.W.mg_none_of KX G ?z_list, PySem.W.mg_none_of KX G ?z_len, PySem.W.mg_none_of KX G ?z_abs, PySem.W.mg_none_of KX G ?z_repr, PySem.W.mg_none_of KX G ?z_int, PySem.W.mg_none_of KX G ?z_bool, PySem.W.mg_none_of KX G ?z_dict, PySem.W.mg_none_of KX G ?z_min, PySem.W.mg_none_of KX G ?z_max, PySem.W.mg_none_of KX G ?z_zip, PySem.W.mg_none_of KX G ?z_all, PySem.W.mg_none_of KX G ?z_isinstance, PySem.W.mg_none_of KX G ?z_sum, PySem.W.mg_none_of KX G ?z_any, PySem.W.mg_none_of KX G ?z_str, PySem.W.mg_none_of KX G ?z_set⟩ ?D_fewest_turns ?D_reach ?D_length ?D__law_pen ?D__law_draw ?D__law_pick ?D__law_prime ?D__law_integer ?D__law_normal ?D__law_polynomial ?D__law_effect ?D__law_wide ?D__law_wide_effect ?D__law_long_effect ?D__law_any_effect ?D__law_cost ?D__law_ends ?D__law_size ?D_law
    (case z_tuple => k_is)
    (case z_sorted => k_is)
    (case z_range => k_is)
    (case z_list => k_is)
    (case z_len => k_is)
    (case z_abs => k_is)
    (case z_repr => k_is)
    (case z_int => k_is)
    (case z_bool => k_is)
    (case z_dict => k_is)
    (case z_min => k_is)
    (case z_max => k_is)
    (case z_zip => k_is)
    (case z_all => k_is)
    (case z_isinstance => k_is)
    (case z_sum => k_is)
    (case z_any => k_is)
    (case z_str => k_is)
    (case z_set => k_is)
    (case D_fewest_turns => refine' DR.df_mk KX G ?a ?l ?c ?k; (case a => k_is); (case l => k_is); (case c => k_is); (case k => k_is))
    (case D_reach => refine' DR.df_mk KX G ?a ?l ?c ?k; (case a => k_is); (case l => k_is); (case c => k_is); (case k => k_is))
    (case D_length => refine' DR.df_mk KX G ?a ?l ?c ?k; (case a => k_is); (case l => k_is); (case c => k_is); (case k => k_is))
    (case D__law_pen => refine' DR.df_mk KX G ?a ?l ?c ?k; (case a => k_is); (case l => k_is); (case c => k_is); (case k => k_is))
    (case D__law_draw => refine' DR.df_mk KX G ?a ?l ?c ?k; (case a => k_is); (case l => k_is); (case c => k_is); (case k => k_is))
    (case D__law_pick => refine' DR.df_mk KX G ?a ?l ?c ?k; (case a => k_is); (case l => k_is); (case c => k_is); (case k => k_is))
    (case D__law_prime => refine' DR.df_mk KX G ?a ?l ?c ?k; (case a => k_is); (case l => k_is); (case c => k_is); (case k => k_is))
    (case D__law_integer => refine' DR.df_mk KX G ?a ?l ?c ?k; (case a => k_is); (case l => k_is); (case c => k_is); (case k => k_is))
    (case D__law_normal => refine' DR.df_mk KX G ?a ?l ?c ?k; (case a => k_is); (case l => k_is); (case c => k_is); (case k => k_is))
    (case D__law_polynomial => refine' DR.df_mk KX G ?a ?l ?c ?k; (case a => k_is); (case l => k_is); (case c => k_is); (case k => k_is))
    (case D__law_effect => refine' DR.df_mk KX G ?a ?l ?c ?k; (case a => k_is); (case l => k_is); (case c => k_is); (case k => k_is))
    (case D__law_wide => refine' DR.df_mk KX G ?a ?l ?c ?k; (case a => k_is); (case l => k_is); (case c => k_is); (case k => k_is))
    (case D__law_wide_effect => refine' DR.df_mk KX G ?a ?l ?c ?k; (case a => k_is); (case l => k_is); (case c => k_is); (case k => k_is))
    (case D__law_long_effect => refine' DR.df_mk KX G ?a ?l ?c ?k; (case a => k_is); (case l => k_is); (case c => k_is); (case k => k_is))
    (case D__law_any_effect => refine' DR.df_mk KX G ?a ?l ?c ?k; (case a => k_is); (case l => k_is); (case c => k_is); (case k => k_is))
    (case D__law_cost => refine' DR.df_mk KX G ?a ?l ?c ?k; (case a => k_is); (case l => k_is); (case c => k_is); (case k => k_is))
    (case D__law_ends => refine' DR.df_mk KX G ?a ?l ?c ?k; (case a => k_is); (case l => k_is); (case c => k_is); (case k => k_is))
    (case D__law_size => refine' DR.df_mk KX G ?a ?l ?c ?k; (case a => k_is); (case l => k_is); (case c => k_is); (case k => k_is))
    (case D_law => refine' DR.df_mk KX G ?a ?l ?c ?k; (case a => k_is); (case l => k_is); (case c => k_is); (case k => k_is))
