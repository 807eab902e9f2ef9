import PyProof.Rows.All
import Wide.All
import OpenK.AllK
import Wide.FinOn
import HandS.Base
import HandS.Call
import HandS.List
import HandS.Comp
import HandS.Dict
import HandS.Iter
import HandS.Ends
import HandS.Words
import HandS.More
import HandS.Wide
import HandS.TupAny
import HandS.IsInst
import HandS.Zip
import HandS.Flow
import HandS.ForMost
import HandS.NoneIn
import HandS.SortInts
import PyProof.ReprRoads
import PyProof.ReprLen
import HandS.TupLe
import HandS.Style
import HandS.Walk
import HandS.SetFor
import HandS.Zip
import HandS.Wide
import PySem.Challenge.RW_dialroad_k60_counts_from_both_sides
set_option Elab.async false
set_option linter.all false
set_option maxRecDepth 100000
set_option maxHeartbeats 4000000
set_option exponentiation.threshold 500
/-! Polynomials as lists of pairs (exponent, coefficient): what they are worth, and when two of them are one. -/
namespace DR
abbrev Pol := List (Int × Int)
/-- the sum of the coefficients at e -/
def cf : Pol → Int → Int
  | [], _ => 0
  | t :: r, e => (if t.1 = e then t.2 else 0) + cf r e
theorem cf_nil (e : Int) : cf [] e = 0 := rfl
theorem cf_cons (t : Int × Int) (r : Pol) (e : Int) : cf (t :: r) e = (if t.1 = e then t.2 else 0) + cf r e := rfl
theorem cf_append : ∀ (f g : Pol) (e : Int), cf (f ++ g) e = cf f e + cf g e
  | [], g, e => by simp [cf]
  | t :: r, g, e => by
    rw [List.cons_append, cf_cons, cf_cons, cf_append r g e]
    omega
theorem cf_none : ∀ (f : Pol) (e : Int), (∀ t ∈ f, t.1 ≠ e) → cf f e = 0
  | [], _, _ => rfl
  | t :: r, e, h => by
    rw [cf_cons, if_neg (h t List.mem_cons_self), cf_none r e fun u hu => h u (List.mem_cons_of_mem _ hu)]
    rfl
theorem cf_ne {f : Pol} {e : Int} (h : cf f e ≠ 0) : ∃ t ∈ f, t.1 = e := by
  refine Classical.byContradiction fun q => h (cf_none f e fun t ht z => q ⟨t, ht, z⟩)
/-- canonical: ascending, coefficients from 1 to p - 1, worth F modulo p -/
structure Nf (p : Int) (g : Pol) (F : Int → Int) : Prop where
  asc : g.Pairwise fun x y => x.1 < y.1
  rng : ∀ t ∈ g, 0 < t.2 ∧ t.2 < p
  cof : ∀ e, cf g e = F e % p
theorem cf_head {t : Int × Int} {r : Pol} (h : (t :: r).Pairwise fun x y => x.1 < y.1) : cf (t :: r) t.1 = t.2 := by
  rw [cf_cons, if_pos rfl, cf_none r t.1 fun u hu z => ?_]
  · omega
  · have := (List.pairwise_cons.mp h).1 u hu
    omega
theorem asc_le {t : Int × Int} {r : Pol} (h : (t :: r).Pairwise fun x y => x.1 < y.1) {u : Int × Int} (hu : u ∈ t :: r) : t.1 ≤ u.1 := by
  rcases List.mem_cons.mp hu with e | e
  · rw [e]
    exact Int.le_refl _
  · exact Int.le_of_lt ((List.pairwise_cons.mp h).1 u e)
theorem cf_mem : ∀ {g : Pol}, (g.Pairwise fun x y => x.1 < y.1) → ∀ t ∈ g, cf g t.1 = t.2
  | [], _, t, h => absurd h List.not_mem_nil
  | u :: r, hp, t, h => by
    rcases List.mem_cons.mp h with e | e
    · rw [e]
      exact cf_head hp
    · have hlt := (List.pairwise_cons.mp hp).1 t e
      rw [cf_cons, if_neg (by omega), cf_mem (List.pairwise_cons.mp hp).2 t e]
      omega
theorem asc_ext : ∀ {g g' : Pol}, (g.Pairwise fun x y => x.1 < y.1) → (g'.Pairwise fun x y => x.1 < y.1) → (∀ t ∈ g, t.2 ≠ 0) → (∀ t ∈ g', t.2 ≠ 0) → (∀ e, cf g e = cf g' e) → g = g'
  | [], [], _, _, _, _, _ => rfl
  | [], u :: s, _, h', _, n', c => by
    have := c u.1
    rw [cf_head h'] at this
    exact absurd this.symm (n' u List.mem_cons_self)
  | t :: r, [], h, _, n, _, c => by
    have := c t.1
    rw [cf_head h] at this
    exact absurd this (n t List.mem_cons_self)
  | t :: r, u :: s, h, h', n, n', c => by
    have a1 : t.1 = u.1 := by
      have e1 := c t.1
      rw [cf_head h] at e1
      obtain ⟨x, hx, ex⟩ := cf_ne (f := u :: s) (e := t.1) (by rw [← e1]; exact n t List.mem_cons_self)
      have e2 := c u.1
      rw [cf_head h'] at e2
      obtain ⟨y, hy, ey⟩ := cf_ne (f := t :: r) (e := u.1) (by rw [e2]; exact n' u List.mem_cons_self)
      have l1 := asc_le h' hx
      have l2 := asc_le h hy
      omega
    have a2 : t.2 = u.2 := by
      have e1 := c t.1
      rw [cf_head h, a1, cf_head h'] at e1
      exact e1
    have e : t = u := Prod.ext a1 a2
    subst e
    congr 1
    refine asc_ext (List.pairwise_cons.mp h).2 (List.pairwise_cons.mp h').2 (fun x hx => n x (List.mem_cons_of_mem _ hx)) (fun x hx => n' x (List.mem_cons_of_mem _ hx)) fun e => ?_
    have := c e
    rw [cf_cons, cf_cons] at this
    omega
theorem Nf.uniq {p : Int} {g g' : Pol} {F F' : Int → Int} (a : Nf p g F) (b : Nf p g' F') (h : ∀ e, F e % p = F' e % p) : g = g' :=
  asc_ext a.asc b.asc (fun t ht => by have := a.rng t ht; omega) (fun t ht => by have := b.rng t ht; omega) fun e => by rw [a.cof, b.cof, h]
theorem Nf.to {p : Int} {g : Pol} {F F' : Int → Int} (a : Nf p g F) (h : ∀ e, F e % p = F' e % p) : Nf p g F' := ⟨a.asc, a.rng, fun e => by rw [a.cof, h]⟩
theorem Nf.self {p : Int} {g : Pol} {F : Int → Int} (a : Nf p g F) : Nf p g (cf g) := a.to fun e => by rw [a.cof, Int.emod_emod]
/-- every exponent of g is one of f's, where g is worth nothing where f has no exponent -/
theorem Nf.sub {p : Int} {g : Pol} {F : Int → Int} (a : Nf p g F) {L : List Int} (h : ∀ e, e ∉ L → F e % p = 0) : ∀ t ∈ g, t.1 ∈ L := fun t ht => by
  refine Classical.byContradiction fun n => ?_
  have e1 := a.cof t.1
  rw [cf_mem a.asc t ht, h _ n] at e1
  have := (a.rng t ht).1
  omega
theorem nd_len : ∀ {L M : List Int}, L.Nodup → (∀ x ∈ L, x ∈ M) → L.length ≤ M.length
  | [], M, _, _ => Nat.zero_le _
  | x :: L, M, h, s => by
    have hx : x ∈ M := s x List.mem_cons_self
    have n := (List.nodup_cons.mp h)
    have := nd_len (L := L) (M := M.erase x) n.2 fun y hy => by
      have hne : y ≠ x := fun e => n.1 (e ▸ hy)
      exact (List.mem_erase_of_ne hne).mpr (s y (List.mem_cons_of_mem _ hy))
    rw [List.length_erase_of_mem hx] at this
    have hp : 0 < M.length := List.length_pos_of_mem hx
    rw [List.length_cons]
    omega
theorem asc_nodup {g : Pol} (h : g.Pairwise fun x y => x.1 < y.1) : (g.map (·.1)).Nodup := by
  rw [List.nodup_iff_pairwise_ne, List.pairwise_map]
  exact h.imp fun q => by omega
theorem Nf.len {p : Int} {g : Pol} {F : Int → Int} (a : Nf p g F) {L : List Int} (h : ∀ e, e ∉ L → F e % p = 0) : g.length ≤ L.length := by
  have := nd_len (asc_nodup a.asc) (M := L) fun x hx => by
    obtain ⟨t, ht, rfl⟩ := List.mem_map.mp hx
    exact a.sub h t ht
  rw [List.length_map] at this
  exact this
theorem cf_out {f : Pol} {e : Int} (h : e ∉ f.map (·.1)) : cf f e = 0 := cf_none f e fun t ht z => h (z ▸ List.mem_map_of_mem ht)
/-! a dict of ints, by its pairs -/
def put : Pol → Int → Int → Pol
  | [], e, v => [(e, v)]
  | t :: r, e, v => if t.1 = e then (e, v) :: r else t :: put r e v
theorem put_keys : ∀ (m : Pol) (e v x : Int), x ∈ (put m e v).map (·.1) → x = e ∨ x ∈ m.map (·.1)
  | [], e, v, x, h => by
    have : x = e := by simpa [put] using h
    exact .inl this
  | t :: r, e, v, x, h => by
    unfold put at h
    split at h
    · rename_i q
      rcases List.mem_cons.mp h with z | z
      · exact .inl z
      · exact .inr (List.mem_cons_of_mem _ z)
    · rcases List.mem_cons.mp h with z | z
      · exact .inr (by rw [z]; exact List.mem_cons_self)
      · rcases put_keys r e v x z with w | w
        · exact .inl w
        · exact .inr (List.mem_cons_of_mem _ w)
theorem put_nodup : ∀ (m : Pol) (e v : Int), (m.map (·.1)).Nodup → ((put m e v).map (·.1)).Nodup
  | [], e, v, _ => by simp [put]
  | t :: r, e, v, h => by
    have h' : (t.1 :: r.map (·.1)).Nodup := h
    have n := List.nodup_cons.mp h'
    unfold put
    split
    · rename_i q
      show (e :: r.map (·.1)).Nodup
      rw [← q]
      exact h'
    · rename_i q
      show (t.1 :: (put r e v).map (·.1)).Nodup
      refine List.nodup_cons.mpr ⟨fun z => ?_, put_nodup r e v n.2⟩
      rcases put_keys r e v t.1 z with w | w
      · exact q w
      · exact n.1 w
theorem put_cf : ∀ (m : Pol) (e v x : Int), (m.map (·.1)).Nodup → cf (put m e v) x = if x = e then v else cf m x
  | [], e, v, x, _ => by
    show (if e = x then v else 0) + 0 = _
    by_cases q : x = e
    · rw [if_pos q, if_pos q.symm]
      omega
    · rw [if_neg q, if_neg (fun z => q z.symm)]
      rfl
  | t :: r, e, v, x, h => by
    have h' : (t.1 :: r.map (·.1)).Nodup := h
    have n := List.nodup_cons.mp h'
    unfold put
    split
    · rename_i q
      rw [cf_cons, cf_cons]
      by_cases z : x = e
      · rw [if_pos z, if_pos z.symm, cf_out (f := r) (e := x) (by rw [z, ← q]; exact n.1)]
        omega
      · rw [if_neg z, if_neg (fun w => z w.symm), if_neg (fun w => z (w.symm.trans q))]
    · rename_i q
      rw [cf_cons, cf_cons, put_cf r e v x n.2]
      by_cases z : x = e
      · rw [if_pos z, if_pos z, if_neg (by omega)]
        omega
      · rw [if_neg z, if_neg z]
theorem put_len : ∀ (m : Pol) (e v : Int), (put m e v).length ≤ m.length + 1
  | [], _, _ => Nat.le_refl _
  | t :: r, e, v => by
    unfold put
    split
    · exact Nat.le_succ _
    · have := put_len r e v
      rw [List.length_cons, List.length_cons]
      omega
/-! what the sorted keys give -/
def kept (p : Int) (F : Int → Int) (ys : List Int) : Pol := (ys.filter fun e => decide (F e % p ≠ 0)).map fun e => (e, F e % p)
theorem kept_nil (p : Int) (F : Int → Int) : kept p F [] = [] := rfl
theorem kept_snoc (p : Int) (F : Int → Int) (ys : List Int) (e : Int) : kept p F (ys ++ [e]) = kept p F ys ++ (if F e % p ≠ 0 then [(e, F e % p)] else []) := by
  unfold kept
  rw [List.filter_append, List.map_append]
  congr 1
  by_cases h : F e % p ≠ 0
  · rw [if_pos h]
    simp [h]
  · rw [if_neg h]
    have : F e % p = 0 := Classical.byContradiction h
    simp [this]
theorem kept_cf (p : Int) (F : Int → Int) : ∀ (ys : List Int) (x : Int), ys.Nodup → cf (kept p F ys) x = if x ∈ ys then F x % p else 0
  | [], x, _ => by simp [kept, cf]
  | y :: r, x, h => by
    have n := List.nodup_cons.mp h
    have ih := kept_cf p F r x n.2
    have e : kept p F (y :: r) = (if F y % p ≠ 0 then [(y, F y % p)] else []) ++ kept p F r := by
      unfold kept
      rw [List.filter_cons]
      by_cases q : F y % p ≠ 0
      · simp [q]
      · have : F y % p = 0 := Classical.byContradiction q
        simp [this]
    rw [e, cf_append, ih]
    by_cases z : x = y
    · subst z
      rw [if_neg n.1, if_pos List.mem_cons_self]
      by_cases q : F x % p ≠ 0
      · rw [if_pos q]
        simp [cf]
      · rw [if_neg q]
        have : F x % p = 0 := Classical.byContradiction q
        rw [this]
        rfl
    · have : cf (if F y % p ≠ 0 then [(y, F y % p)] else []) x = 0 := by
        refine cf_none _ _ fun t ht w => ?_
        split at ht
        · have : t = (y, F y % p) := by simpa using ht
          rw [this] at w
          exact z w.symm
        · cases ht
      rw [this]
      by_cases q : x ∈ r
      · rw [if_pos q, if_pos (List.mem_cons_of_mem _ q)]
        omega
      · rw [if_neg q, if_neg (fun w => (List.mem_cons.mp w).elim z q)]
        rfl
theorem le_nd_lt : ∀ {ys : List Int}, ys.Pairwise (· ≤ ·) → ys.Nodup → ys.Pairwise (· < ·)
  | [], _, _ => .nil
  | y :: r, h, n => by
    have a := List.pairwise_cons.mp h
    have b := List.nodup_cons.mp n
    refine List.pairwise_cons.mpr ⟨fun z hz => ?_, le_nd_lt a.2 b.2⟩
    have := a.1 z hz
    have : y ≠ z := fun q => b.1 (q ▸ hz)
    omega
theorem kept_nf {p : Int} {F : Int → Int} {ys : List Int} (hp : 0 < p) (h : ys.Pairwise (· ≤ ·)) (n : ys.Nodup) (z : ∀ e, e ∉ ys → F e % p = 0) : Nf p (kept p F ys) F := by
  refine ⟨?_, fun t ht => ?_, fun e => ?_⟩
  · unfold kept
    rw [List.pairwise_map]
    exact (le_nd_lt h n).sublist List.filter_sublist
  · unfold kept at ht
    obtain ⟨e, he, rfl⟩ := List.mem_map.mp ht
    have q := of_decide_eq_true (List.mem_filter.mp he).2
    have h1 := Int.emod_nonneg (F e) (show p ≠ 0 by omega)
    have h2 := Int.emod_lt_of_pos (F e) hp
    exact ⟨by show 0 < F e % p; omega, h2⟩
  · rw [kept_cf p F ys e n]
    by_cases q : e ∈ ys
    · rw [if_pos q]
    · rw [if_neg q, z e q]
theorem kept_len (p : Int) (F : Int → Int) (ys : List Int) : (kept p F ys).length ≤ ys.length := by
  unfold kept
  rw [List.length_map]
  exact List.length_filter_le _ _
/-! the sums that the functions make -/
theorem cf_scale (k : Int) : ∀ (f : Pol) (e : Int), cf (f.map fun t => (t.1, t.2 * k)) e = cf f e * k
  | [], e => by simp [cf]
  | t :: r, e => by
    rw [List.map_cons, cf_cons, cf_cons, cf_scale k r e, Int.add_mul]
    show (if t.1 = e then t.2 * k else 0) + _ = _
    by_cases h : t.1 = e
    · rw [if_pos h, if_pos h]
    · rw [if_neg h, if_neg h, Int.zero_mul]
def moved (n : Int) (f : Pol) : Pol := f.map fun t => (t.1 + n, t.2)
theorem cf_moved (n : Int) : ∀ (f : Pol) (e : Int), cf (moved n f) e = cf f (e - n)
  | [], e => rfl
  | t :: r, e => by
    show (if t.1 + n = e then t.2 else 0) + cf (moved n r) e = (if t.1 = e - n then t.2 else 0) + cf r (e - n)
    rw [cf_moved n r e]
    by_cases h : t.1 + n = e
    · rw [if_pos h, if_pos (by omega)]
    · rw [if_neg h, if_neg (by omega)]
theorem Nf.moved {p : Int} {g : Pol} {F : Int → Int} (a : Nf p g F) (n : Int) : Nf p (moved n g) (fun e => F (e - n)) := by
  refine ⟨?_, fun t ht => ?_, fun e => by rw [cf_moved, a.cof]⟩
  · unfold DR.moved
    rw [List.pairwise_map]
    exact a.asc.imp fun q => by omega
  · obtain ⟨u, hu, rfl⟩ := List.mem_map.mp (show t ∈ g.map fun t => (t.1 + n, t.2) from ht)
    exact a.rng u hu
/-- 1 at 0, s, .., (n - 1) * s -/
def rounds (n : Nat) (s : Int) : Pol := (List.range n).map fun (m : Nat) => ((m : Int) * s, (1 : Int))
/-- a term times a polynomial; all products of two terms -/
def times (t : Int × Int) (g : Pol) : Pol := g.map fun u => (t.1 + u.1, t.2 * u.2)
def prods (f g : Pol) : Pol := f.flatMap fun t => times t g
theorem prods_nil (g : Pol) : prods [] g = [] := rfl
theorem prods_snoc (f g : Pol) (t : Int × Int) : prods (f ++ [t]) g = prods f g ++ times t g := by
  unfold prods
  rw [List.flatMap_append]
  simp
theorem times_len (t : Int × Int) (g : Pol) : (times t g).length = g.length := by
  unfold times
  rw [List.length_map]
theorem prods_len : ∀ f g : Pol, (prods f g).length = f.length * g.length
  | [], g => by simp [prods]
  | t :: r, g => by
    show (times t g ++ prods r g).length = _
    rw [List.length_append, times_len, prods_len r g, List.length_cons, Nat.add_mul, Nat.one_mul, Nat.add_comm]
theorem prods_mem {f g : Pol} {x : Int × Int} (h : x ∈ prods f g) : ∃ t ∈ f, ∃ u ∈ g, x = (t.1 + u.1, t.2 * u.2) := by
  obtain ⟨t, ht, hx⟩ := List.mem_flatMap.mp h
  obtain ⟨u, hu, rfl⟩ := List.mem_map.mp (show x ∈ g.map fun u => (t.1 + u.1, t.2 * u.2) from hx)
  exact ⟨t, ht, u, hu, rfl⟩
end DR
/-! Products of polynomials: a ring without divisors of zero, modulo a prime. -/
namespace DR
/-- what the products of two polynomials are worth at e -/
def conv : Pol → (Int → Int) → Int → Int
  | [], _, _ => 0
  | t :: r, G, e => t.2 * G (e - t.1) + conv r G e
theorem cf_times (t : Int × Int) : ∀ (g : Pol) (e : Int), cf (times t g) e = t.2 * cf g (e - t.1)
  | [], e => by simp [times, cf]
  | u :: r, e => by
    show (if t.1 + u.1 = e then t.2 * u.2 else 0) + cf (times t r) e = t.2 * ((if u.1 = e - t.1 then u.2 else 0) + cf r (e - t.1))
    rw [cf_times t r e, Int.mul_add]
    by_cases h : t.1 + u.1 = e
    · rw [if_pos h, if_pos (by omega)]
    · rw [if_neg h, if_neg (by omega), Int.mul_zero]
theorem cf_prods : ∀ (f g : Pol) (e : Int), cf (prods f g) e = conv f (cf g) e
  | [], g, e => rfl
  | t :: r, g, e => by
    show cf (times t g ++ prods r g) e = _
    rw [cf_append, cf_times, cf_prods r g e]
    rfl
theorem conv_add (G G' : Int → Int) : ∀ (f : Pol) (e : Int), conv f (fun x => G x + G' x) e = conv f G e + conv f G' e
  | [], e => rfl
  | t :: r, e => by
    show t.2 * (G (e - t.1) + G' (e - t.1)) + conv r _ e = (t.2 * G (e - t.1) + conv r G e) + (t.2 * G' (e - t.1) + conv r G' e)
    rw [conv_add G G' r e, Int.mul_add]
    omega
theorem conv_congr {G G' : Int → Int} (h : ∀ x, G x = G' x) : ∀ (f : Pol) (e : Int), conv f G e = conv f G' e
  | [], e => rfl
  | t :: r, e => by
    show t.2 * G (e - t.1) + conv r G e = t.2 * G' (e - t.1) + conv r G' e
    rw [h, conv_congr h r e]
theorem conv_mod {p : Int} {G G' : Int → Int} (h : ∀ x, G x % p = G' x % p) : ∀ (f : Pol) (e : Int), conv f G e % p = conv f G' e % p
  | [], e => rfl
  | t :: r, e => by
    show (t.2 * G (e - t.1) + conv r G e) % p = (t.2 * G' (e - t.1) + conv r G' e) % p
    rw [Int.add_emod, Int.mul_emod, h, conv_mod h r e, ← Int.mul_emod, ← Int.add_emod]
theorem conv_smul (k : Int) (G : Int → Int) : ∀ (f : Pol) (e : Int), conv f (fun x => k * G x) e = k * conv f G e
  | [], e => by show (0 : Int) = k * 0; rw [Int.mul_zero]
  | t :: r, e => by
    show t.2 * (k * G (e - t.1)) + conv r _ e = k * (t.2 * G (e - t.1) + conv r G e)
    rw [conv_smul k G r e, Int.mul_add, Int.mul_left_comm]
/-- a single term added on the right -/
theorem conv_snd (u : Int × Int) (G : Int → Int) (f : Pol) (e : Int) : conv f (fun x => (if u.1 = x then u.2 else 0) + G x) e = u.2 * cf f (e - u.1) + conv f G e := by
  rw [conv_add]
  congr 1
  induction f with
  | nil => show (0 : Int) = u.2 * 0; rw [Int.mul_zero]
  | cons t r ih =>
    show t.2 * (if u.1 = e - t.1 then u.2 else 0) + conv r _ e = u.2 * ((if t.1 = e - u.1 then t.2 else 0) + cf r (e - u.1))
    rw [ih, Int.mul_add]
    by_cases h : u.1 = e - t.1
    · rw [if_pos h, if_pos (by omega), Int.mul_comm]
    · rw [if_neg h, if_neg (by omega), Int.mul_zero, Int.mul_zero]
theorem conv_zero : ∀ (f : Pol) (e : Int), conv f (fun _ => 0) e = 0
  | [], e => rfl
  | t :: r, e => by
    show t.2 * 0 + conv r _ e = 0
    rw [conv_zero r e, Int.mul_zero]
    rfl
/-- both ways about -/
theorem conv_comm : ∀ (g f : Pol) (e : Int), conv f (cf g) e = conv g (cf f) e
  | [], f, e => (conv_congr (G' := fun _ => 0) (fun _ => rfl) f e).trans (conv_zero f e)
  | u :: r, f, e => by
    show conv f (fun x => (if u.1 = x then u.2 else 0) + cf r x) e = u.2 * cf f (e - u.1) + conv r (cf f) e
    rw [conv_snd, conv_comm r f e]
/-- f counts by its worth alone, modulo p -/
theorem conv_fst {p : Int} {f f' : Pol} (h : ∀ x, cf f x % p = cf f' x % p) (g : Pol) (e : Int) : conv f (cf g) e % p = conv f' (cf g) e % p := by
  rw [conv_comm g f, conv_comm g f', conv_mod h g e]
theorem conv_append : ∀ (f f' : Pol) (G : Int → Int) (e : Int), conv (f ++ f') G e = conv f G e + conv f' G e
  | [], f', G, e => by show conv f' G e = 0 + conv f' G e; rw [Int.zero_add]
  | t :: r, f', G, e => by
    show t.2 * G (e - t.1) + conv (r ++ f') G e = (t.2 * G (e - t.1) + conv r G e) + conv f' G e
    rw [conv_append r f' G e]
    omega
theorem conv_times (t : Int × Int) (G : Int → Int) : ∀ (g : Pol) (e : Int), conv (times t g) G e = t.2 * conv g G (e - t.1)
  | [], e => by show (0 : Int) = t.2 * 0; rw [Int.mul_zero]
  | u :: r, e => by
    show (t.2 * u.2) * G (e - (t.1 + u.1)) + conv (times t r) G e = t.2 * (u.2 * G (e - t.1 - u.1) + conv r G (e - t.1))
    rw [conv_times t G r e, Int.mul_add, Int.mul_assoc, show e - (t.1 + u.1) = e - t.1 - u.1 by omega]
theorem conv_assoc : ∀ (f g : Pol) (G : Int → Int) (e : Int), conv (prods f g) G e = conv f (conv g G) e
  | [], g, G, e => rfl
  | t :: r, g, G, e => by
    show conv (times t g ++ prods r g) G e = t.2 * conv g G (e - t.1) + conv r (conv g G) e
    rw [conv_append, conv_times, conv_assoc r g G e]
theorem conv_moved (n : Int) (G : Int → Int) : ∀ (f : Pol) (e : Int), conv (moved n f) G e = conv f G (e - n)
  | [], e => rfl
  | t :: r, e => by
    show t.2 * G (e - (t.1 + n)) + conv (moved n r) G e = t.2 * G (e - n - t.1) + conv r G (e - n)
    rw [conv_moved n G r e, show e - (t.1 + n) = e - n - t.1 by omega]
theorem mul_emod_l (a b p : Int) : a % p * b % p = a * b % p := by rw [Int.mul_emod, Int.emod_emod, ← Int.mul_emod]
theorem add_emod_l (a b p : Int) : (a % p + b) % p = (a + b) % p := Int.emod_add_emod a p b
theorem sub_mod_eq {a b p : Int} (h : (a - b) % p = 0) : a % p = b % p := by
  have : a = b + (a - b) := by omega
  rw [this, Int.add_emod, h, Int.add_zero, Int.emod_emod]
/-- the least exponents' term of a product -/
theorem conv_least {t u : Int × Int} {r s : Pol} (h : (t :: r).Pairwise fun x y => x.1 < y.1) (h' : (u :: s).Pairwise fun x y => x.1 < y.1) : conv (t :: r) (cf (u :: s)) (t.1 + u.1) = t.2 * u.2 := by
  show t.2 * cf (u :: s) (t.1 + u.1 - t.1) + conv r (cf (u :: s)) (t.1 + u.1) = t.2 * u.2
  rw [show t.1 + u.1 - t.1 = u.1 by omega, cf_head h']
  have : ∀ r : Pol, (∀ x ∈ r, t.1 < x.1) → conv r (cf (u :: s)) (t.1 + u.1) = 0 := by
    intro r
    induction r with
    | nil => intro _; rfl
    | cons x r ih =>
      intro hx
      show x.2 * cf (u :: s) (t.1 + u.1 - x.1) + conv r _ _ = 0
      rw [ih fun y hy => hx y (List.mem_cons_of_mem _ hy), cf_none (u :: s) _ fun y hy e => ?_, Int.mul_zero]
      · rfl
      · have l1 := asc_le h' hy
        have l2 := hx x List.mem_cons_self
        omega
  rw [this r (List.pairwise_cons.mp h).1]
  omega
/-- geometric sums close up -/
theorem rounds_succ (n : Nat) (s : Int) : rounds (n + 1) s = rounds n s ++ [((n : Int) * s, 1)] := by
  unfold rounds
  rw [List.range_succ, List.map_append]
  rfl
theorem rounds_tel (s e : Int) : ∀ n : Nat, cf (rounds n s) e - cf (rounds n s) (e - s) = (if 0 = e then 1 else 0) - (if (n : Int) * s = e then 1 else 0)
  | 0 => by
    show (0 : Int) - 0 = _
    simp
  | n + 1 => by
    rw [rounds_succ, cf_append, cf_append, cf_cons, cf_cons, cf_nil, cf_nil]
    have ih := rounds_tel s e n
    show cf (rounds n s) e + ((if (n : Int) * s = e then 1 else 0) + 0) - (cf (rounds n s) (e - s) + ((if (n : Int) * s = e - s then 1 else 0) + 0)) = _
    have e1 : (((n + 1 : Nat) : Int) * s = e) ↔ ((n : Int) * s = e - s) := by
      rw [Int.natCast_add, Int.add_mul]
      constructor <;> intro h <;> omega
    by_cases h1 : (n : Int) * s = e - s
    · rw [if_pos h1, if_pos (e1.mpr h1)]
      omega
    · rw [if_neg h1, if_neg (fun z => h1 (e1.mp z))]
      omega
end DR
/-! Powers: the rounds of an effect added up, forwards and backwards. -/
namespace DR
def upF (F : Int → Int) (m : Int) : Nat → Int → Int
  | 0, _ => 0
  | n + 1, e => upF F m n e + F (e - (n : Int) * m)
def dnF (F : Int → Int) (m : Int) : Nat → Int → Int
  | 0, _ => 0
  | n + 1, e => dnF F m n e + F (e + ((n : Int) + 1) * m)
/-- what c rounds of an effect with the worth F and the shift m turn -/
def pwF (F : Int → Int) (m : Int) : Int → Int → Int
  | .ofNat n, e => upF F m n e
  | .negSucc n, e => - dnF F m (n + 1) e
theorem pw_zero (F : Int → Int) (m e : Int) : pwF F m 0 e = 0 := rfl
theorem pw_succ (F : Int → Int) (m : Int) : ∀ (c e : Int), pwF F m (c + 1) e = pwF F m c e + F (e - c * m)
  | .ofNat n, e => rfl
  | .negSucc 0, e => by
    show pwF F m (Int.negSucc 0 + 1) e = - (0 + F (e + ((0 : Int) + 1) * m)) + F (e - Int.negSucc 0 * m)
    rw [show Int.negSucc 0 + 1 = 0 from rfl, pw_zero, show Int.negSucc 0 = (-1 : Int) from rfl, show e - -1 * m = e + (0 + 1) * m by omega]
    omega
  | .negSucc (n + 1), e => by
    rw [show Int.negSucc (n + 1) + 1 = Int.negSucc n from rfl]
    show - dnF F m (n + 1) e = - (dnF F m (n + 1) e + F (e + (((n + 1 : Nat) : Int) + 1) * m)) + F (e - Int.negSucc (n + 1) * m)
    have h : Int.negSucc (n + 1) = -(((n + 1 : Nat) : Int) + 1) := by omega
    rw [h, Int.neg_mul, Int.sub_neg]
    omega
theorem int_ind {P : Int → Prop} (h0 : P 0) (hs : ∀ c, P c ↔ P (c + 1)) (c : Int) : P c := by
  have up : ∀ n : Nat, P (n : Int) := fun n => by
    induction n with
    | zero => exact h0
    | succ n ih =>
      have := (hs (n : Int)).mp ih
      exact this
  have dn : ∀ n : Nat, P (-(n : Int)) := fun n => by
    induction n with
    | zero => exact h0
    | succ n ih =>
      refine (hs _).mpr ?_
      rw [show -((n + 1 : Nat) : Int) + 1 = -(n : Int) by omega]
      exact ih
  by_cases h : 0 ≤ c
  · have := up c.toNat
    rw [Int.toNat_of_nonneg h] at this
    exact this
  · have := dn (-c).toNat
    rw [Int.toNat_of_nonneg (by omega), Int.neg_neg] at this
    exact this
theorem pw_add (F : Int → Int) (m a : Int) : ∀ (b e : Int), pwF F m (a + b) e = pwF F m a e + pwF F m b (e - a * m) := by
  intro b
  refine int_ind (P := fun b => ∀ e, pwF F m (a + b) e = pwF F m a e + pwF F m b (e - a * m)) (fun e => ?_) (fun c => ?_) b
  · rw [Int.add_zero, pw_zero, Int.add_zero]
  · have key : ∀ e, F (e - (a + c) * m) = F (e - a * m - c * m) := fun e => by
      congr 1
      rw [Int.add_mul]
      omega
    constructor
    · intro h e
      rw [← Int.add_assoc, pw_succ, pw_succ, h e, key]
      omega
    · intro h e
      have h' := h e
      rw [← Int.add_assoc, pw_succ, pw_succ, key] at h'
      omega
theorem pw_neg (F : Int → Int) (m a e : Int) : pwF F m (-a) e = - pwF F m a (e + a * m) := by
  have h := pw_add F m (-a) a e
  rw [Int.add_left_neg, pw_zero, Int.neg_mul, Int.sub_neg] at h
  omega
theorem pw_one (F : Int → Int) (m e : Int) : pwF F m 1 e = F e := by
  show 0 + F (e - ((0 : Nat) : Int) * m) = F e
  rw [Int.zero_add, show e - ((0 : Nat) : Int) * m = e by omega]
theorem pw_congr {F G : Int → Int} (h : ∀ x, F x = G x) (m c e : Int) : pwF F m c e = pwF G m c e := by
  rw [show F = G from funext h]
theorem pw_mod {q : Int} {F G : Int → Int} (h : ∀ x, F x % q = G x % q) (m : Int) : ∀ c e : Int, pwF F m c e % q = pwF G m c e % q := by
  intro c
  refine int_ind (P := fun c => ∀ e, pwF F m c e % q = pwF G m c e % q) (fun e => rfl) (fun c => ?_) c
  constructor
  · intro k e
    rw [pw_succ, pw_succ, Int.add_emod, k e, h, ← Int.add_emod]
  · intro k e
    have e1 := k e
    rw [pw_succ, pw_succ] at e1
    have e2 : pwF F m c e = pwF F m c e + F (e - c * m) - F (e - c * m) := by omega
    have e3 : pwF G m c e = pwF G m c e + G (e - c * m) - G (e - c * m) := by omega
    rw [e2, e3, Int.sub_emod, e1, h (e - c * m), ← Int.sub_emod]
/-- the inverse's rounds are rounds backwards -/
theorem pw_inv (F : Int → Int) (m : Int) : ∀ c e : Int, pwF (fun x => F (x + m) * -1) (-m) c e = pwF F m (-c) e := by
  intro c
  refine int_ind (P := fun c => ∀ e, pwF (fun x => F (x + m) * -1) (-m) c e = pwF F m (-c) e) (fun e => rfl) (fun c => ?_) c
  have key : ∀ e, pwF F m (-c) e = pwF F m (-(c + 1)) e + F (e + c * m + m) := fun e => by
    have h := pw_succ F m (-(c + 1)) e
    rw [show -(c + 1) + 1 = -c by omega, Int.neg_mul, Int.sub_neg, Int.add_mul, Int.one_mul, ← Int.add_assoc] at h
    exact h
  have k2 : ∀ e, F (e - c * -m + m) * -1 = - F (e + c * m + m) := fun e => by
    rw [show e - c * -m + m = e + c * m + m by rw [Int.mul_neg]; omega]
    omega
  constructor
  · intro h e
    rw [pw_succ, h e, k2, key e]
    omega
  · intro h e
    have h' := h e
    rw [pw_succ, k2] at h'
    rw [key e]
    omega
theorem pw_mul (F : Int → Int) (m a : Int) : ∀ b e : Int, pwF (fun x => pwF F m a x) (a * m) b e = pwF F m (a * b) e := by
  intro b
  refine int_ind (P := fun b => ∀ e, pwF (fun x => pwF F m a x) (a * m) b e = pwF F m (a * b) e) (fun e => by rw [Int.mul_zero, pw_zero, pw_zero]) (fun c => ?_) b
  have key : ∀ e, pwF F m (a * (c + 1)) e = pwF F m (a * c) e + pwF F m a (e - c * (a * m)) := fun e => by
    rw [Int.mul_add, Int.mul_one, pw_add, show a * c * m = c * (a * m) by rw [Int.mul_comm a c, Int.mul_assoc]]
  constructor
  · intro h e
    rw [pw_succ, h e, key e]
  · intro h e
    have h' := h e
    rw [pw_succ, key e] at h'
    omega
/-- led by another effect -/
theorem pw_led (F G : Int → Int) (m n : Int) : ∀ b e : Int, pwF (fun x => G (x + n) * -1 + F (x + n) + G (x + n - m)) m b e = G (e + n) * -1 + pwF F m b (e + n) + G (e + n - b * m) := by
  intro b
  refine int_ind (P := fun b => ∀ e, pwF (fun x => G (x + n) * -1 + F (x + n) + G (x + n - m)) m b e = G (e + n) * -1 + pwF F m b (e + n) + G (e + n - b * m)) (fun e => by rw [pw_zero, pw_zero, Int.zero_mul, Int.sub_zero]; omega) (fun c => ?_) b
  have key : ∀ e, G (e - c * m + n) * -1 + F (e - c * m + n) + G (e - c * m + n - m) = G (e + n - c * m) * -1 + F (e + n - c * m) + G (e + n - (c + 1) * m) := fun e => by
    rw [show e - c * m + n = e + n - c * m by omega, show e + n - c * m - m = e + n - (c + 1) * m by rw [Int.add_mul]; omega]
  constructor
  · intro h e
    rw [pw_succ, pw_succ, h e, key]
    omega
  · intro h e
    have h' := h e
    rw [pw_succ, pw_succ, key] at h'
    omega
theorem conv_rounds (f : Pol) (m : Int) : ∀ (n : Nat) (e : Int), conv f (cf (rounds n m)) e = upF (cf f) m n e
  | 0, e => (conv_congr (G' := fun _ => 0) (fun _ => rfl) f e).trans (conv_zero f e)
  | n + 1, e => by
    have h : ∀ x, cf (rounds (n + 1) m) x = (if ((n : Int) * m, (1 : Int)).1 = x then ((n : Int) * m, (1 : Int)).2 else 0) + cf (rounds n m) x := fun x => by
      rw [rounds_succ, cf_append, cf_cons, cf_nil]
      omega
    rw [conv_congr h, conv_snd, conv_rounds f m n e]
    show 1 * cf f (e - (n : Int) * m) + upF (cf f) m n e = upF (cf f) m n e + cf f (e - (n : Int) * m)
    omega
theorem pw_rounds (f : Pol) (m : Int) {c : Int} (h : 0 ≤ c) (e : Int) : conv f (cf (rounds c.toNat m)) e = pwF (cf f) m c e := by
  obtain ⟨n, rfl⟩ : ∃ n : Nat, c = (n : Int) := ⟨c.toNat, by omega⟩
  rw [Int.toNat_natCast, conv_rounds]
  rfl
theorem up_far {F : Int → Int} {m e : Int} : ∀ n : Nat, (∀ k : Int, k.natAbs ≤ n → F (e - k * m) = 0) → upF F m n e = 0
  | 0, _ => rfl
  | n + 1, h => by
    show upF F m n e + F (e - (n : Int) * m) = 0
    rw [up_far n fun k hk => h k (by omega), h (n : Int) (by omega)]
    rfl
theorem dn_far {F : Int → Int} {m e : Int} : ∀ n : Nat, (∀ k : Int, k.natAbs ≤ n → F (e - k * m) = 0) → dnF F m n e = 0
  | 0, _ => rfl
  | n + 1, h => by
    show dnF F m n e + F (e + ((n : Int) + 1) * m) = 0
    have h1 := h (-((n : Int) + 1)) (by omega)
    rw [Int.neg_mul, Int.sub_neg] at h1
    rw [dn_far n fun k hk => h k (by omega), h1]
    rfl
theorem pw_far {F : Int → Int} {m e : Int} : ∀ c : Int, (∀ k : Int, k.natAbs ≤ c.natAbs → F (e - k * m) = 0) → pwF F m c e = 0
  | .ofNat n, h => up_far n h
  | .negSucc n, h => by
    show - dnF F m (n + 1) e = 0
    rw [dn_far (n + 1) h]
    rfl
theorem pw_flat (F : Int → Int) (e : Int) : ∀ c : Int, pwF F 0 c e = c * F e := by
  intro c
  refine int_ind (P := fun c => pwF F 0 c e = c * F e) (by rw [pw_zero, Int.zero_mul]) (fun c => ?_) c
  rw [pw_succ, Int.mul_zero, Int.sub_zero, Int.add_mul, Int.one_mul]
  omega
end DR
/-! What the laws of one document share: a few rules more of the hand layer, and polynomials in the heap. -/
namespace DR
open PySem PySem.Spec PyProof.Rows L2
section
variable {P : Program} {w : World} {A : Around} {E : Value → Shared → Prop}
/-- the second half of `sorted`: the members stand gathered and are ints; they go into a new list, and that is put in order -/
theorem order_ints {now : Shared} {items : List Value} {nums : List Int} {after : PySem.Fin → Shared → Prop} (whole : IntsAre items nums) (room : items.length ≤ sizeLine)
    (next : ∀ (g : Heap) (arr : Array Value) (stamp : Nat) (ys : List Int), (∀ b u, now.heap.get? b = some u → g.get? b = some u) → g.get? now.heap.objs.size = some (seqObj "list" arr stamp) → IntsAre arr.toList ys →
      ys.Perm nums → ys.Pairwise (· ≤ ·) → after (.done (.ret (.ref now.heap.objs.size))) { now with heap := g }) :
    wpAny (model P w) A (do let l ← newList items; let _ ← holding [l] (call (.builtin "list.sort") [l] []); ret l) after E now := by
  have laid : (now.heap.push (seqObj "list" items.toArray 0)).get? now.heap.objs.size = some (seqObj "list" items.toArray 0) := Heap.get?_push_size _ rfl
  have done : ∀ out : List Value, SrtO.Srtd SrtO.ltIv out → SrtO.Stb SrtO.ltIv out items →
      after (.done (.ret (.ref now.heap.objs.size))) { now with heap := sortedHeap (now.heap.push (seqObj "list" items.toArray 0)) now.heap.objs.size items out.toArray } := fun out asc same => by
    obtain ⟨numb, perm, up⟩ := SrtO.ints_out whole asc same
    obtain ⟨stamp, there⟩ := sortedHeap_at (vs := items) (out := out.toArray) laid
    refine next _ out.toArray stamp (out.map SrtO.iv) (fun b u old => ?_) there (by simpa using numb) perm up
    have below : b < now.heap.objs.size := Heap.lt_size old
    have wider : b < (now.heap.push (seqObj "list" items.toArray 0)).objs.size := by
      rw [size_push']
      exact Nat.lt_succ_of_lt below
    exact (sortedHeap_old (Nat.ne_of_lt below) wider).trans (Heap.get?_push_of_some _ old)
  have sorts := SrtO.list_sort_ord (prog := P) (w := w) (A := A.in1) (E := E) (s := { now with heap := now.heap.push (seqObj "list" items.toArray 0) }) (R := fun r s' => r = .done (.ret .none) ∧ ∃ out : List Value, SrtO.Srtd SrtO.ltIv out ∧ SrtO.Stb SrtO.ltIv out items ∧ s' = { now with heap := sortedHeap (now.heap.push (seqObj "list" items.toArray 0)) now.heap.objs.size items out.toArray })
    SrtO.swo_int laid room (fun two => SrtO.ints_sortable whole two) fun out asc same => ⟨rfl, out, asc, same, rfl⟩
  refine wpAny_bind (wpAny_newList (wpAny_bind (wpAny_holding ?_)) room)
  refine wpAny_call_entry slot_list_sort ⟨_, laid, rfl⟩ entry_list_sort ?_ (args_list_sort _)
  refine wpAny_mono sorts (fun r s' told => ?_) fun e s' told => told
  obtain ⟨rfl, out, asc, same, rfl⟩ := told
  exact ⟨_, rfl, wpAny_pure (done out asc same)⟩
end
section
variable {X : Cx}
/-- sorted(d), the keys ints, however many -/
theorem call_sortedDA (calm : X.calm = true) : CallR X (.builtin "sorted") (fun given G K => ∃ (d : Addr) (kvs : List (Key × V)) (ks : List Int), given = [.ref d] ∧ Rd G d (.dK kvs) ∧ kvs.map (·.1) = ks.map Sum.inl ∧
    ∀ (ys : List Int) (p : Addr), ys.Perm ks → (ys.Pairwise fun u v => u ≤ v) → G p = none → K (.ref p) (upd G p (.lst (ys.map V.int)))) := by
  intro pins now σ G given us K I r told
  obtain ⟨d, kvs, ks, rfl, hd, hks, told⟩ := told
  rw [Vals.ref1 r]
  obtain ⟨few, loose, pairs, rel, dd⟩ := dk_rd I.hok hd
  obtain ⟨ep, at_d⟩ := dd.dictAt
  have keys : pairs.map (·.1) = ks.map Sum.inl := hks ▸ rel.keys.symm
  have len : pairs.length = ks.length := by simpa using congrArg List.length keys
  have lkv : kvs.length = ks.length := by simpa using congrArg List.length hks
  have fits : pairs.length ≤ sizeLine := by
    rw [len, ← lkv]
    exact few
  refine Calls.call_function_entry kind_sorted plain_sorted entry_sorted (args_sorted1 _) ?_
  unfold Builtin.«sorted»
  refine wpAny_bind (m := checkCount "sorted" 1 1 _) (wpAny_pure (wpAny_bind (PySem.W.kdu_collect (A := X.A.in1) (PySem.W.kdl_dict (knd := mixKind X.prog X.w) (kvs := pairs) (ep := ep) loose) (I.ok.hd calm) at_d fits fun g1 toks acc kept each => ?_)))
  have lacc : acc.toList.length = ks.length := by rw [Array.length_toList, each.1, len]
  have whole : IntsAre acc.toList ks := ints_each lacc fun j v e => by
    obtain ⟨k, _, here, like⟩ := each.2 j v (by simpa using e)
    have key : (ks.map Sum.inl)[j]? = some k := by rw [← keys, List.getElem?_map, here]; rfl
    rw [List.getElem?_map] at key
    obtain ⟨y, hy, rfl⟩ := Option.map_eq_some_iff.mp key
    rcases keyIs_shape (show keyIs (Sum.inl y) v = true from like) with ⟨i, t, ek, ev⟩ | ⟨_, _, ek, _⟩
    · cases ek
      exact ⟨y, t, hy, ev⟩
    · cases ek
  have I1 : Inv X pins σ G { now with heap := g1, toks := toks } := I.kept kept
  refine order_ints whole (by rw [lacc, ← lkv]; exact few) fun g arr stamp ys old there numb perm up => ?_
  have fit : (ys.map V.int).length ≤ sizeLine := by
    rw [List.length_map, perm.length_eq, ← lkv]
    exact few
  exact ⟨_, rfl, .ref g1.objs.size, _, I1.laid (t' := toks) (o := .lst (ys.map V.int)) old (Nat.le_refl _) ⟨fit, arr.toList, stamp, vals_of_ints numb, there⟩, rfl, told ys _ perm up (I1.hok.fresh (Nat.le_refl _))⟩
/-- repr(x), x data of any depth, where no other repr runs -/
theorem call_reprD (hg : X.A.guards = some []) (hu : X.A.units + 100 < cLine) : CallR X (.builtin "repr") (fun xs H Q => ∃ (x : V) (d : PyData), xs = [x] ∧ (∃ a, x = .ref a) ∧ Dp X.K H x d ∧ d.showable = true ∧ d.hasDict = false ∧ d.depth ≤ 64 ∧ d.shown.length ≤ sizeLine ∧ Q (.str d.shown) H) := by
  intro pins s σ H xs us Q I r h
  obtain ⟨x, d, rfl, ⟨a, rfl⟩, hd, hs, hn, hz, hl, q⟩ := h
  obtain ⟨u, rfl, rx⟩ := vals1 r
  cases rx
  obtain ⟨as, rd⟩ := Dp.reads I d _ _ hd rfl
  refine repr_of_reads' rd hs (fun z => absurd z (by rw [hn]; exact Bool.false_ne_true)) hg (by omega) (fun _ _ e => e) (fun h' t tk hk => ?_) hl
  exact ⟨.str d.shown, H, I.kept hk, ⟨t, rfl⟩, q⟩
end
end DR
namespace DR
open PySem PySem.Spec PyProof.Rows L2
/-! ### the law's own def is called once, by the caller alone: there no repr runs (guards), which FnOk can't say -/
/-- a promise kept where the law is called -/
def Kept (P : Program) (w : World) (K : PySem.W.Frag) (mg : Str → Option Value) (base : Heap) (f : Addr) (fd : FuncData) (ps : List Str) (sp : Sp) : Prop :=
  ∀ (s : Shared) (H : Hp) (args : Args) (us : List Value) (vs : List V) (Q : VK) (E : XK), Env0 P w K mg base callerA [] s H → BindsTo s fd args (ps.zip us) →
    Vals vs us → sp vs H Q E → codeAny (model P w) callerA (.call (.ref f) args) (CR CX0 [] P w H s Q E) s
theorem kept_of {P : Program} {w : World} {K : PySem.W.Frag} {mg : Str → Option Value} {base : Heap} {x qual : Str} {st : Stmt} {f : Addr} {fd : FuncData} {N ps : List Str} {k : Nat} {sp : Sp} (F : Fun K x qual st f fd) (S : FnScope N ps (defScope st))
    (len : ∀ vs H Q E, sp vs H Q E → vs.length = ps.length) (room : Room (k + 1) callerA)
    (body : ∀ (cdv : Value) (s : Shared) (H : Hp) (vs : List V) (Q : VK) (E : XK), Room k (callerA.deeper (envOfC qual (defScope st) s.heap.objs.size f cdv)) → sp vs H Q E →
      ∃ t, PSs (cxOf CX0 P w K mg base N qual (defScope st) f cdv callerA [] s H E).nox (defBody st) t ∧ t { nx := fun _ H' => Q .non H', rt := Q } (start N vs) H) : Kept P w K mg base f fd ps sp := by
  obtain ⟨_, _, _, _, _, _, cdv, _, _, rfl, found, code⟩ := F.ex
  intro s H args us vs Q E e0 hb r hsp
  have hl := len _ _ _ _ hsp
  have kin : K.In s.heap := e0.mod.kin.keeps fun b o e => (e0.bs b o e).1
  have free := e0.mod.nolimit.keeps fun b o e => (e0.bs b o e).1
  have kinds : ∀ y ∈ ps.zip us, (defScope st).names.lookup y.1 = some .local ∨ ((defScope st).names.lookup y.1 = some .cell ∧ ((cellsFrom (s.heap.objs.size + 1) (defScope st).names []).lookup y.1).isSome = true) := by
    rintro ⟨n, v⟩ hy
    exact (S.par n (List.of_mem_zip hy).1).imp_right fun q => ⟨q, PySem.W.cellsFrom_some _ _ _ (.inl q)⟩
  refine codeAny_call_function room.depth (kin _ _ found) rfl S.co S.gen rfl (PySem.W.codeRec_of kin code) (hb _ _ _ _ ?_)
  refine wpAny_newFunctionEnv_cells S.kind kinds fun env he s1 z => ?_
  subst he
  refine ⟨free.keeps z.toInCall.keep, codeAny_func ?_⟩
  obtain ⟨t, ht, hq⟩ := body cdv s H vs Q E (room.deeper _) hsp
  have I : Inv (cxOf CX0 P w K mg base N qual (defScope st) f cdv callerA [] s H E) [] (start N vs) H s1 := inv_start S room.hd e0 hl r z
  refine wpAny_mono (ht.nox.run [] s1 (start N vs) H _ I hq) (fun fl s2 hs => ?_) fun e s2 hs => hs
  cases fl with
  | ret u =>
    obtain ⟨v, _, H', J, rv, q⟩ := hs
    exact ⟨v, H', J.os, J.bare, J.base, J.hok, rv, q⟩
  | next =>
    obtain ⟨_, H', J, q⟩ := hs
    exact ⟨.non, H', J.os, J.bare, J.base, J.hok, rfl, q⟩
  | brk => exact hs.elim fun _ z => z.elim fun _ y => y.2.elim
  | cont => exact hs.elim fun _ z => z.elim fun _ y => y.2.elim
/-- what the judge asks of the law's call -/
abbrev Passed (before : Shared) : Except Value Flow → Shared → Prop := fun r s' => r = .ok (.ret (.bool true)) ∧ OldK before.heap s'.heap ∧ s'.os = before.os ∧ AllBare s'.gens
/-- the names of the module and of the builtins, as they stand before the call -/
structure Stand (K : PySem.W.Frag) (mg mb : Str → Option Value) (before : Shared) : Prop where
  kin : K.In before.heap
  mod : before.heap.Ns mainGlobals mg
  std : before.heap.Ns builtinsNs mb
  boot : ∀ x : Str, x ≠ "__name__" → mb x = bootBuiltins x
  free : before.heap.NoLimit
  none : before.gens = #[]
theorem law_kept {P : Program} {w : World} {K : PySem.W.Frag} {mg mb : Str → Option Value} {fa a : Addr} {fd : FuncData} {x : Str} {sp : Sp} {s₁ : Shared} {vs : List Value} {ns : List Int}
    (W : Stand K mg mb s₁)
    (ha : s₁.heap.get? a = some { cls := .type "list", data := .seq vs.toArray }) (hi : IntsAre vs ns) (hl : ns.length ≤ sizeLine)
    (F : ∀ base : Heap, K.In base → base.Ns mainGlobals mg → Kept P w K mg base fa fd [x] sp) (hbind : ∀ (s : Shared) (u : Value), BindsTo s fd ⟨[u], []⟩ [(x, u)])
    (hsp : ∀ H : Hp, Only H → SqL K H a (ns.map V.int) → sp [.ref a] H (fun v _ => v = .bl true) fun _ _ _ => False) :
    codeAny (model P w) callerA (.call (.ref fa) ⟨[.ref a], []⟩) (Passed s₁) s₁ := by
  have rv := vals_ints hi
  have core : ∀ H : Hp, Only H → SqL K H a (ns.map V.int) → HOk P w H s₁.heap → (∀ b, b ≠ a → H b = none) → (H a = none ∨ K.lookup a = none) →
      codeAny (model P w) callerA (.call (.ref fa) ⟨[.ref a], []⟩) (Passed s₁) s₁ := by
    intro H hO hS ok Hn hK
    have up : ∀ {b : Addr} {o : Obj}, H b = none → s₁.heap.get? b = some o → (hidT s₁.heap H).get? b = some o := fun q e => hidT_get e q
    have ns' : ∀ {b : Addr} {m : Str → Option Value}, s₁.heap.Ns b m → (hidT s₁.heap H).Ns b m := fun {b m} h => by
      obtain ⟨o, es, ep, e, d, r⟩ := h
      refine ⟨o, es, ep, up (Hn b fun q => ?_) e, d, r⟩
      subst q
      rw [ha] at e
      cases e
      exact nomatch d
    have kin : K.In (hidT s₁.heap H) := fun b o e => by
      refine up ?_ (W.kin b o e)
      by_cases q : b = a
      · rcases hK with z | z
        · rw [q]
          exact z
        · rw [q, z] at e
          cases e
      · exact Hn b q
    have M : Mod K mg (hidT s₁.heap H) := ⟨kin, ns' W.mod, ⟨mb, ns' W.std, W.boot⟩, W.free.elim fun mc z => ⟨mc, ns' z.1, z.2⟩⟩
    have e0 : Env0 P w K mg (hidT s₁.heap H) callerA [] s₁ H := ⟨rfl, M, fun b o e => of_hidT e, Nat.le_of_eq (hidT_size _ _), trivial, fun b z => absurd (show b ∈ ([] : List Addr) from z) (by simp), ok, .of_eq W.none⟩
    refine codeAny_mono (F _ kin (ns' W.mod) s₁ H _ [.ref a] [.ref a] _ _ e0 (hbind s₁ (.ref a)) (.cons rfl .nil) (hsp H hO hS)) fun r s' h => ?_
    cases r with
    | error e => exact False.elim h
    | ok fl =>
      cases fl with
      | ret u =>
        obtain ⟨v, H', os, bare, un, ok', r', q⟩ := h
        obtain rfl : v = .bl true := q
        cases r'
        refine ⟨rfl, OldK.of_keep ?_, os, bare⟩
        intro b o e
        obtain z | ⟨ob, xs, z⟩ := hO b
        · exact un.keep b o e z (fun y => absurd (show b ∈ ([] : List Addr) from y) (by simp)) (by simp)
        · have z1 := (ok _ _ z).1
          have z2 := (ok' _ _ (un.frzs _ _ _ z)).1
          rw [e] at z1
          cases z1
          exact z2
      | next => exact False.elim h
      | brk => exact False.elim h
      | cont => exact False.elim h
  cases hk : K.lookup a with
  | none =>
    refine core (fun b => if b = a then some (.frz { cls := .type "list", data := .seq vs.toArray } (.lst (ns.map V.int))) else none) (fun b => ?_) (.inl (.inr ⟨_, if_pos rfl⟩)) (fun b o e => ?_) (fun b e => if_neg e) (.inr hk)
    · by_cases q : b = a
      · exact .inr ⟨_, _, if_pos q⟩
      · exact .inl (if_neg q)
    · by_cases q : b = a
      · have e' := (if_pos q).symm.trans e
        cases e'
        subst q
        have fit : (ns.map V.int).length ≤ sizeLine := (List.length_map _).symm ▸ hl
        exact ⟨ha, fit, vs, _, rv, ha⟩
      · have e' := (if_neg q).symm.trans e
        cases e'
  | some o =>
    have e := W.kin a o hk
    rw [ha] at e
    cases e
    refine core (fun _ => none) (fun _ => .inl rfl) (.inr ⟨_, vs.toArray, _, hk, rfl, rfl, rfl, ?_, by simpa using rv⟩) (fun b u z => ?_) (fun b _ => rfl) (.inl rfl)
    · simpa [hi.length] using hl
    · have z' : (none : Option HO) = some u := z
      cases z'
/-- the end: the law's promise, kept where it is called, closes the walk -/
theorem walk_kept {l : PySem.W.OpenLaw} {q : Program} {loose : List Str} {XP : (Str → Option Value) → Heap → Prop} {YP : World → Heap → Prop} {d : DefRec} {K : Params → PySem.W.Frag} {sp : PySem.W.Frag → Sp} {x : Str}
    (hn : l.most = some 63) (hdf : d.params.defaults = []) (hY : ∀ (w : World) (h : Heap), YP w h → (K w.params).In h)
    (F : ∀ (w : World) (mg : Str → Option Value) (at_ : Addr) (g : Heap), (K w.params).In g → g.Ns mainGlobals mg → mg d.name = some (.ref at_) →
      ∃ fd : FuncData, (∀ (s : Shared) (u : Value), BindsTo s fd ⟨[u], []⟩ [(x, u)]) ∧ ∀ base : Heap, (K w.params).In base → base.Ns mainGlobals mg → Kept l.prog w (K w.params) mg base at_ fd [x] (sp (K w.params)))
    (hsp : ∀ (K : PySem.W.Frag) (H : Hp) (a : Addr) (ns : List Int), ns.length ≤ 63 → SqL K H a (ns.map V.int) → sp K [.ref a] H (fun v _ => v = .bl true) fun _ _ _ => False) :
    PySem.W.WalkO q loose XP YP l.row.toRowW d [] (fun f vs => PySem.call f vs) := by
  refine Att.attach_call hn hdf ?_
  intro w _ _ mg _ fa _ _ _ _ a _ ns G Y _ _ _ hmg hobj hints hlen hg
  obtain ⟨fd, hb, hF⟩ := F w mg fa _ (hY w _ Y) G.T.g hmg
  exact law_kept ⟨hY w _ Y, G.T.g, G.T.b, G.T.builtins, G.T.nolimit, hg⟩ hobj hints (Nat.le_trans hlen (by decide)) hF hb fun H _ hS => hsp _ H a ns hlen hS
end DR
namespace DR
open PySem PySem.Spec PyProof.Rows L2
/-! ### heaps -/
theorem same_new {H : Hp} {p : Addr} {o : HO} (h : H p = none) : Same H (upd H p o) := fun b u e => by
  rw [upd_ne (ne_of_none e h)]
  exact e
/-- what H does not know may change -/
theorem same_mut {H H' : Hp} {p : Addr} {o : HO} (s : Same H H') (h : H p = none) : Same H (upd H' p o) := fun b u e => by
  rw [upd_ne (ne_of_none e h)]
  exact s b u e
theorem same_t {K : PySem.W.Frag} {H H' : Hp} {a : Addr} {xs : List V} (e : Same H H') (h : SqT K H a xs) : SqT K H' a xs := by
  match h with
  | .inl (.inl z) => exact .inl (.inl (e _ _ z))
  | .inl (.inr ⟨u, z⟩) => exact .inl (.inr ⟨u, e _ _ z⟩)
  | .inr z => exact .inr z
theorem same_l {K : PySem.W.Frag} {H H' : Hp} {a : Addr} {xs : List V} (e : Same H H') (h : SqL K H a xs) : SqL K H' a xs := e.seq h
/-- all but what stands at p stays -/
def Kp (p : Addr) (H H' : Hp) : Prop := ∀ b o, b ≠ p → H b = some o → H' b = some o
theorem Kp.refl (p : Addr) (H : Hp) : Kp p H H := fun _ _ _ e => e
theorem Kp.trans {p : Addr} {H H1 H2 : Hp} (a : Kp p H H1) (b : Kp p H1 H2) : Kp p H H2 := fun c o n e => b c o n (a c o n e)
theorem Same.kp {p : Addr} {H H' : Hp} (s : Same H H') : Kp p H H' := fun b o _ e => s b o e
theorem Kp.upd {p : Addr} {H H' : Hp} {o : HO} (k : Kp p H H') : Kp p H (upd H' p o) := fun b u n e => by
  rw [upd_ne n]
  exact k b u n e
/-- tuples (and what is locked) stay: so every tuple of tuples and numbers does -/
structure Tp (H H' : Hp) : Prop where
  tup : ∀ b xs, H b = some (.tup xs) → H' b = some (.tup xs)
  frz : ∀ b o u, H b = some (.frz o u) → H' b = some (.frz o u)
theorem Same.tp {H H' : Hp} (s : Same H H') : Tp H H' := ⟨fun b xs e => s b _ e, fun b o u e => s b _ e⟩
theorem Tp.refl (H : Hp) : Tp H H := ⟨fun _ _ e => e, fun _ _ _ e => e⟩
theorem Tp.trans {H H1 H2 : Hp} (a : Tp H H1) (b : Tp H1 H2) : Tp H H2 := ⟨fun c xs e => b.tup c xs (a.tup c xs e), fun c o u e => b.frz c o u (a.frz c o u e)⟩
theorem Kp.tp {p : Addr} {H H' : Hp} {kvs : List (Key × V)} (k : Kp p H H') (h : H p = some (.dK kvs)) : Tp H H' :=
  ⟨fun b xs e => k b _ (ne_of e h (by intro z; cases z)) e, fun b o u e => k b _ (ne_of e h (by intro z; cases z)) e⟩
theorem tp_t {K : PySem.W.Frag} {H H' : Hp} {a : Addr} {xs : List V} (e : Tp H H') (h : SqT K H a xs) : SqT K H' a xs := by
  rcases h with (h | ⟨o, h⟩) | h
  · exact .inl (.inl (e.tup _ _ h))
  · exact .inl (.inr ⟨o, e.frz _ _ _ h⟩)
  · exact .inr h
/-- a list, a dict changes or a new thing comes -/
theorem tp_lst {H : Hp} {p : Addr} {xs : List V} {o : HO} (h : H p = some (.lst xs)) : Tp H (upd H p o) :=
  ⟨fun b ys e => by rw [upd_ne (ne_of e h (by intro z; cases z))]; exact e, fun b u v e => by rw [upd_ne (ne_of e h (by intro z; cases z))]; exact e⟩
theorem tp_dK {H : Hp} {p : Addr} {xs : List (Key × V)} {o : HO} (h : H p = some (.dK xs)) : Tp H (upd H p o) :=
  ⟨fun b ys e => by rw [upd_ne (ne_of e h (by intro z; cases z))]; exact e, fun b u v e => by rw [upd_ne (ne_of e h (by intro z; cases z))]; exact e⟩
theorem tp_new {H : Hp} {p : Addr} {o : HO} (h : H p = none) : Tp H (upd H p o) := Same.tp (same_new h)
/-! ### polynomials: tuples (or lists) of pairs of ints -/
def IsPr (K : PySem.W.Frag) (H : Hp) (x : V) (t : Int × Int) : Prop := ∃ a, x = V.ref a ∧ SqT K H a [.int t.1, .int t.2]
abbrev Prs (K : PySem.W.Frag) (H : Hp) : List V → Pol → Prop := Paired (IsPr K H)
def TPol (K : PySem.W.Frag) (H : Hp) (v : V) (f : Pol) : Prop := ∃ a xs, v = .ref a ∧ SqT K H a xs ∧ Prs K H xs f
def LPol (K : PySem.W.Frag) (H : Hp) (v : V) (f : Pol) : Prop := ∃ a xs, v = .ref a ∧ SqL K H a xs ∧ Prs K H xs f
section
variable {K : PySem.W.Frag} {H H' : Hp} {v x : V} {xs ys : List V} {f g : Pol} {t : Int × Int}
theorem IsPr.tp (e : Tp H H') (h : IsPr K H x t) : IsPr K H' x t := h.elim fun a z => ⟨a, z.1, tp_t e z.2⟩
theorem Prs.tp (e : Tp H H') : ∀ {xs : List V} {f : Pol}, Prs K H xs f → Prs K H' xs f
  | _, _, .nil => .nil
  | _, _, .cons r q => .cons (r.tp e) (Prs.tp e q)
theorem TPol.tp (e : Tp H H') (h : TPol K H v f) : TPol K H' v f := by
  obtain ⟨a, xs, rfl, hs, hp⟩ := h
  exact ⟨a, xs, rfl, tp_t e hs, Prs.tp e hp⟩
theorem LPol.same (e : Same H H') (h : LPol K H v f) : LPol K H' v f := by
  obtain ⟨a, xs, rfl, hs, hp⟩ := h
  exact ⟨a, xs, rfl, e.seq hs, Prs.tp (Same.tp e) hp⟩
theorem Prs.snoc : ∀ {xs : List V} {f : Pol}, Prs K H xs f → IsPr K H x t → Prs K H (xs ++ [x]) (f ++ [t])
  | _, _, .nil, h => .cons h .nil
  | _, _, .cons r q, h => .cons r (Prs.snoc q h)
theorem Prs.app : ∀ {xs : List V} {f : Pol}, Prs K H xs f → Prs K H ys g → Prs K H (xs ++ ys) (f ++ g)
  | _, _, .nil, h => h
  | _, _, .cons r q, h => .cons r (Prs.app q h)
theorem Prs.len (h : Prs K H xs f) : xs.length = f.length := Paired.length h
theorem Prs.get : ∀ {xs : List V} {f : Pol} {i : Nat} {x : V}, Prs K H xs f → xs[i]? = some x → ∃ t, f[i]? = some t ∧ IsPr K H x t
  | _, _, _, _, .nil, e => by simp at e
  | _, _, 0, _, .cons r _, e => by
    simp at e
    subst e
    exact ⟨_, rfl, r⟩
  | _, _, i + 1, x, .cons _ q, e => by
    obtain ⟨t, h1, h2⟩ := Prs.get (i := i) (x := x) q (by simpa using e)
    exact ⟨t, by simpa using h1, h2⟩
theorem isPr_new {p : Addr} {t : Int × Int} : IsPr K (upd H p (.tup [.int t.1, .int t.2])) (.ref p) t := ⟨p, rfl, SqT.of upd_same⟩
/-- as data -/
def pr (t : Int × Int) : PyData := .tuple [.int t.1, .int t.2]
def pd (f : Pol) : PyData := .tuple (f.map pr)
theorem IsPr.dp (h : IsPr K H x t) : Dp K H x (pr t) := by
  obtain ⟨a, rfl, hs⟩ := h
  exact .tup hs (.cons (.int _) (.cons (.int _) .nil))
theorem Prs.dp : ∀ {xs : List V} {f : Pol}, Prs K H xs f → DpAll K H xs (f.map pr)
  | _, _, .nil => .nil
  | _, _, .cons r q => .cons r.dp (Prs.dp q)
theorem TPol.dp (h : TPol K H v f) : Dp K H v (pd f) := by
  obtain ⟨a, xs, rfl, hs, hp⟩ := h
  exact .tup hs hp.dp
end
/-! ### how they are shown -/
theorem int_shows {i : Int} (h : i.natAbs < 10 ^ 100) : (PyData.int i).showable = true ∧ ((PyData.int i).shown).length ≤ 101 := by
  refine ⟨decide_eq_true (log2_small (Nat.lt_of_lt_of_le h (by decide +kernel))), ?_⟩
  have e := int_text_length_le10 (k := 100) (by decide) h
  show (Str.ofString (toString i)).length ≤ 101
  rw [PySem.ofString_length]
  exact e
theorem pr_shows {t : Int × Int} (h1 : t.1.natAbs < 10 ^ 100) (h2 : t.2.natAbs < 10 ^ 100) : (pr t).showable = true ∧ (pr t).shown.length ≤ 209 := by
  obtain ⟨a1, a2⟩ := int_shows h1
  obtain ⟨b1, b2⟩ := int_shows h2
  refine ⟨?_, ?_⟩
  · show ((PyData.int t.1).showable && ((PyData.int t.2).showable && true)) = true
    rw [a1, b1]
    rfl
  · show (tupleText [(PyData.int t.1).shown, (PyData.int t.2).shown]).length ≤ 209
    have := tupleText_len_le [(PyData.int t.1).shown, (PyData.int t.2).shown]
    simp only [List.map_cons, List.map_nil, List.sum_cons, List.sum_nil, List.length_cons, List.length_nil] at this
    omega
/-- small enough to be shown -/
structure Sm (f : Pol) : Prop where
  len : f.length ≤ 50000
  abs : ∀ t ∈ f, t.1.natAbs < 10 ^ 100 ∧ t.2.natAbs < 10 ^ 100
theorem prs_shows : ∀ (f : Pol), (∀ t ∈ f, t.1.natAbs < 10 ^ 100 ∧ t.2.natAbs < 10 ^ 100) → PyData.showableAll (f.map pr) = true ∧ PyData.hasDictAll (f.map pr) = false ∧ PyData.depthAll (f.map pr) ≤ 1 ∧ ((PyData.shownAll (f.map pr)).map (·.length)).sum ≤ 209 * f.length ∧ (PyData.shownAll (f.map pr)).length = f.length
  | [], _ => ⟨rfl, rfl, Nat.zero_le _, Nat.zero_le _, rfl⟩
  | t :: r, h => by
    obtain ⟨a1, a2, a3, a4, a5⟩ := prs_shows r fun u hu => h u (List.mem_cons_of_mem _ hu)
    obtain ⟨b1, b2⟩ := pr_shows (h t List.mem_cons_self).1 (h t List.mem_cons_self).2
    refine ⟨?_, ?_, ?_, ?_, ?_⟩
    · show ((pr t).showable && PyData.showableAll (r.map pr)) = true
      rw [a1, b1]
      rfl
    · show ((pr t).hasDict || PyData.hasDictAll (r.map pr)) = false
      rw [a2]
      rfl
    · show max (pr t).depth (PyData.depthAll (r.map pr)) ≤ 1
      have : (pr t).depth = 1 := rfl
      omega
    · show ((pr t).shown.length :: ((PyData.shownAll (r.map pr)).map (·.length))).sum ≤ 209 * (r.length + 1)
      rw [List.sum_cons]
      omega
    · show (PyData.shownAll (r.map pr)).length + 1 = r.length + 1
      rw [a5]
theorem pd_shows {f : Pol} (h : Sm f) : (pd f).showable = true ∧ (pd f).hasDict = false ∧ (pd f).depth ≤ 2 ∧ (pd f).shown.length ≤ 211 * f.length + 3 := by
  obtain ⟨a1, a2, a3, a4, a5⟩ := prs_shows f h.abs
  refine ⟨a1, a2, ?_, ?_⟩
  · show PyData.depthAll (f.map pr) + 1 ≤ 2
    omega
  · show (tupleText (PyData.shownAll (f.map pr))).length ≤ _
    have := tupleText_len_le (PyData.shownAll (f.map pr))
    rw [a5] at this
    omega
/-- what repr asks -/
structure Shows (K : PySem.W.Frag) (H : Hp) (v : V) (d : PyData) : Prop where
  ref : ∃ a, v = .ref a
  dp : Dp K H v d
  s1 : d.showable = true
  s2 : d.hasDict = false
  s3 : d.depth ≤ 64
  s4 : d.shown.length ≤ sizeLine
theorem TPol.shows {K : PySem.W.Frag} {H : Hp} {v : V} {f : Pol} (h : TPol K H v f) (s : Sm f) : Shows K H v (pd f) := by
  obtain ⟨a1, a2, a3, a4⟩ := pd_shows s
  have := s.len
  refine ⟨h.elim fun a z => ⟨a, z.elim fun _ y => y.1⟩, h.dp, a1, a2, by omega, ?_⟩
  rw [sizeLine_eq]
  omega
theorem pr_lay (t : Int × Int) : (pr t).canLay0 = true := rfl
theorem prs_lay : ∀ f : Pol, PyData.canLayAll0 (f.map pr) = true ∧ PyData.depthAll (f.map pr) ≤ 1
  | [] => ⟨rfl, Nat.zero_le _⟩
  | t :: r => by
    obtain ⟨a, b⟩ := prs_lay r
    refine ⟨?_, ?_⟩
    · show ((pr t).canLay0 && PyData.canLayAll0 (r.map pr)) = true
      rw [a]
      rfl
    · show max (pr t).depth (PyData.depthAll (r.map pr)) ≤ 1
      have : (pr t).depth = 1 := rfl
      omega
theorem pd_shaped (f : Pol) : SeqAt.shaped (pd f) = true := by
  obtain ⟨a, b⟩ := prs_lay f
  show (PyData.canLayAll0 (f.map pr) && decide (PyData.depthAll (f.map pr) + 1 ≤ 64)) = true
  rw [a, decide_eq_true (by omega)]
  rfl
/-! ### dicts of ints -/
def kvOf (m : Pol) : List (Key × V) := m.map fun t => (Sum.inl t.1, V.int t.2)
theorem kv_keys (m : Pol) : (kvOf m).map (·.1) = (m.map (·.1)).map Sum.inl := by
  unfold kvOf
  rw [List.map_map, List.map_map]
  rfl
theorem kv_val : ∀ (m : Pol) (e : Int), (m.map (·.1)).Nodup → valV (kvOf m) (Sum.inl e) = if e ∈ m.map (·.1) then some (.int (cf m e)) else none
  | [], e, _ => by simp [kvOf, valV_nil]
  | t :: r, e, h => by
    have n := List.nodup_cons.mp (show (t.1 :: r.map (·.1)).Nodup from h)
    show valV ((Sum.inl t.1, V.int t.2) :: kvOf r) (Sum.inl e) = _
    by_cases q : t.1 = e
    · rw [valV_pos (by rw [q])]
      rw [if_pos (by rw [← q]; exact List.mem_cons_self), cf_cons, if_pos q, cf_out (f := r) (e := e) (by rw [← q]; exact n.1)]
      show some (V.int t.2) = some (V.int (t.2 + 0))
      rw [Int.add_zero]
    · rw [valV_neg (fun z => q (Sum.inl.inj z)), kv_val r e n.2, cf_cons, if_neg q, Int.zero_add]
      have : e ∈ (t :: r).map (·.1) ↔ e ∈ r.map (·.1) := by
        rw [List.map_cons, List.mem_cons]
        exact ⟨fun z => z.elim (fun y => absurd y.symm q) id, .inr⟩
      by_cases z : e ∈ r.map (·.1)
      · rw [if_pos z, if_pos (this.mpr z)]
      · rw [if_neg z, if_neg (fun y => z (this.mp y))]
theorem kv_getD (m : Pol) (e : Int) (h : (m.map (·.1)).Nodup) : (valV (kvOf m) (Sum.inl e)).getD (.int 0) = .int (cf m e) := by
  rw [kv_val m e h]
  by_cases z : e ∈ m.map (·.1)
  · rw [if_pos z]
    rfl
  · rw [if_neg z, cf_out z]
    rfl
theorem kv_has {m : Pol} {e : Int} (h : (m.map (·.1)).Nodup) (z : e ∈ m.map (·.1)) : valV (kvOf m) (Sum.inl e) = some (.int (cf m e)) := by
  rw [kv_val m e h, if_pos z]
theorem put_new : ∀ {m : Pol} {e v : Int}, e ∉ m.map (·.1) → put m e v = m ++ [(e, v)]
  | [], _, _, _ => rfl
  | t :: r, e, v, h => by
    have h1 : t.1 ≠ e := fun z => h (by rw [← z]; exact List.mem_cons_self)
    unfold put
    rw [if_neg h1, put_new fun z => h (List.mem_cons_of_mem _ z)]
    rfl
theorem put_old : ∀ {m : Pol} {e v : Int}, (m.map (·.1)).Nodup → e ∈ m.map (·.1) → put m e v = m.map fun t => if t.1 = e then (t.1, v) else t
  | [], _, _, _, h => absurd h List.not_mem_nil
  | t :: r, e, v, n, h => by
    have nn := List.nodup_cons.mp (show (t.1 :: r.map (·.1)).Nodup from n)
    unfold put
    by_cases q : t.1 = e
    · rw [if_pos q, List.map_cons, if_pos q, q]
      congr 1
      have : ∀ u ∈ r, (if u.1 = e then (u.1, v) else u) = id u := fun u hu => by
        rw [if_neg]
        · rfl
        · intro z
          exact nn.1 (by rw [q, ← z]; exact List.mem_map_of_mem hu)
      rw [List.map_congr_left this, List.map_id]
    · rw [if_neg q, List.map_cons, if_neg q, put_old nn.2]
      rcases List.mem_cons.mp (show e ∈ t.1 :: r.map (·.1) from h) with z | z
      · exact absurd z.symm q
      · exact z
theorem kv_put {m : Pol} {e v : Int} (n : (m.map (·.1)).Nodup) : putK (kvOf m) (Sum.inl e : Key) (.int v) = kvOf (put m e v) := by
  by_cases z : e ∈ m.map (·.1)
  · rw [put_old n z]
    unfold putK
    rw [valV_any, kv_has n z, if_pos (by rfl)]
    unfold kvOf
    rw [List.map_map, List.map_map]
    refine List.map_congr_left fun t _ => ?_
    show (if (Sum.inl t.1 : Key) = Sum.inl e then ((Sum.inl t.1 : Key), V.int v) else (Sum.inl t.1, V.int t.2)) = (Sum.inl (if t.1 = e then (t.1, v) else t).1, V.int (if t.1 = e then (t.1, v) else t).2)
    by_cases q : t.1 = e
    · rw [if_pos q, if_pos (by rw [q])]
    · rw [if_neg q, if_neg (fun y => q (Sum.inl.inj y))]
  · rw [putK_new _ (by rw [kv_val m e n, if_neg z]), put_new z]
    unfold kvOf
    rw [List.map_append]
    rfl
theorem kv_len (m : Pol) : (kvOf m).length = m.length := by
  unfold kvOf
  rw [List.length_map]
theorem sl_of {n : Nat} (h : n ≤ 1000000) : n ≤ sizeLine := by
  rw [sizeLine_eq]
  omega
theorem sl_lt {n : Nat} (h : n ≤ 1000000) : n < sizeLine := by
  rw [sizeLine_eq]
  omega
/-! ### a list of pairs that a comprehension, or a loop, makes -/
structure Grow (K : PySem.W.Frag) (H0 : Hp) (D : Addr) (f : Pol) (H : Hp) : Prop where
  same : Same H0 H
  ex : ∃ xs, H D = some (.lst xs) ∧ Prs K H xs f
section
variable {K : PySem.W.Frag} {H0 H : Hp} {D q : Addr} {f : Pol}
theorem Grow.start (n : H0 D = none) : Grow K H0 D [] (upd H0 D (.lst [])) := ⟨same_new n, [], upd_same, .nil⟩
theorem Grow.step (n : H0 D = none) (g : Grow K H0 D f H) (hq : H q = none) (e c : Int) (hl : f.length < 1000000) :
    ∃ acc, upd H q (.tup [.int e, .int c]) D = some (.lst acc) ∧ acc.length < sizeLine ∧ Grow K H0 D (f ++ [(e, c)]) (upd (upd H q (.tup [.int e, .int c])) D (.lst (acc ++ [.ref q]))) := by
  obtain ⟨s, xs, hD, hP⟩ := g
  have nDq : D ≠ q := ne_of_none hD hq
  have h1 : upd H q (.tup [.int e, .int c]) D = some (.lst xs) := by
    rw [upd_ne nDq]
    exact hD
  have t1 : Tp H (upd H q (.tup [.int e, .int c])) := tp_new hq
  have t2 : Tp (upd H q (.tup [.int e, .int c])) (upd (upd H q (.tup [.int e, .int c])) D (.lst (xs ++ [.ref q]))) := tp_lst h1
  refine ⟨xs, h1, sl_lt (by rw [hP.len]; omega), same_mut (s.trans (same_new hq)) n, _, upd_same, Prs.snoc (Prs.tp (t1.trans t2) hP) (IsPr.tp t2 ?_)⟩
  exact isPr_new (t := (e, c))
end
theorem ints_get {ys : List Int} {i : Nat} {x : V} (h : (ys.map V.int)[i]? = some x) : ∃ e, ys[i]? = some e ∧ x = .int e := by
  rw [List.getElem?_map] at h
  cases q : ys[i]? with
  | none =>
    rw [q] at h
    cases h
  | some e =>
    rw [q] at h
    exact ⟨e, rfl, (Option.some.inj h).symm⟩
theorem take_snoc {α : Type} {ys : List α} {i : Nat} {e : α} (h : ys[i]? = some e) : ys.take (i + 1) = ys.take i ++ [e] := by
  rw [List.take_add_one, h]
  rfl
theorem dget_int {H : Hp} {d : Addr} {m : Pol} {e : Int} (h : H d = some (.dK (kvOf m))) (n : (m.map (·.1)).Nodup) (z : e ∈ m.map (·.1)) : DGet H d (.int e) (some (.int (cf m e))) := by
  have := DGet.k (k := (Sum.inl e : Key)) h
  rw [kv_has n z] at this
  exact this
theorem dget_any {H : Hp} {d : Addr} {m : Pol} (e : Int) (h : H d = some (.dK (kvOf m))) : DGet H d (.int e) (valV (kvOf m) (Sum.inl e)) := DGet.k (k := (Sum.inl e : Key)) h
theorem dput_int {H : Hp} {d : Addr} {m : Pol} (e v : Int) (h : H d = some (.dK (kvOf m))) (n : (m.map (·.1)).Nodup) (hl : m.length ≤ 1000000) : DPut H d (.int e) (.int v) (upd H d (.dK (kvOf (put m e v)))) := by
  have := DPut.k (k := (Sum.inl e : Key)) (v := .int v) h (by rw [kv_len]; exact sl_lt hl)
  rw [kv_put n] at this
  exact this
/-! ### a def of the text by its name, and its call -/
structure Cal (P : Program) (w : World) (K : PySem.W.Frag) (mg : Str → Option Value) (base : Heap) (k : Nat) (x : Str) (sp : Sp) : Prop where
  ex : ∃ (f : Addr) (fd : FuncData) (ps : List Str), FnOk P w K mg base CX0 k f fd ps sp ∧ mg x = some (.ref f) ∧ PySem.W.keepIn K (.ref f) = true ∧ Binds K fd ps []
theorem pe_c {X : Cx} {k j : Nat} {x : Str} {sp : Sp} {p pos : Pos} {e : Expr} {es : List Expr} {t : TA} (c : Cal X.prog X.w X.K X.mg X.base k x sp) (hr : Room j X.A) (hk : k ≤ j) (hg : Gl X x) (ha : PA X (e :: es) t)
    (h1 : (x == ("__debug__" : Str)) = false := by decide) (h2 : starEach (e :: es) X.env = (false, eval e X.env) :: starEach es X.env := by rfl) (h3 : (backTo pos (starEach es X.env)).any (·.1) = false := by rfl) :
    PE X (.Call (.Name x p) (e :: es) [] pos) (tCall sp [] E0 t) := by
  obtain ⟨f, fd, ps, F, hm, kp, b⟩ := c.ex
  exact pe_call F (hr.mono hk) hg hm kp b .nil pass0 ha h1 h2 h3
/-! ### comprehensions that make pairs -/
section
variable {K : PySem.W.Frag} {a : Addr} {xs : List V} {f : Pol} {σ : L2.St} {H : Hp} {vs : List Nat} {n i j : Nat} {te : TE} {Q : VK}
/-- [(.., ..) for x, y in a tuple of pairs] -/
theorem lcT (G : Int × Int → Int × Int) (hv : σ[n]? = some (some (.ref a))) (hs : SqT K H a xs) (hP : Prs K H xs f) (hl : f.length ≤ 1000000)
    (hw : ∀ x y, wipe (((wipe σ vs).set i (some x)).set j (some y)) vs = wipe σ vs)
    (he : ∀ t ∈ f, ∀ H2, Same H H2 → ∀ R : VK, (∀ q, H2 q = none → R (.ref q) (upd H2 q (.tup [.int (G t).1, .int (G t).2]))) → te (((wipe σ vs).set i (some (.int t.1))).set j (some (.int t.2))) H2 R)
    (k : ∀ D H2, H D = none → Grow K H D (f.map G) H2 → Q (.ref D) H2) : tLc (iTup K (tVar n)) (gTup K 2 (gCons (gName i) (gCons (gName j) gNil))) tYes te vs σ H Q := by
  refine ⟨_, hv, a, rfl, ⟨_, hs⟩, fun D nD => lc_tup (K := K) (a := a) (xs := xs) (fun m H2 => Grow K H D ((f.take m).map G) H2) (.start nD) (fun m H2 _ g => same_t g.same hs) ?_ ?_⟩
  · intro m x H2 hm g
    obtain ⟨t, ht, b, rfl, hb⟩ := hP.get hm
    refine ⟨b, _, rfl, same_t g.same hb, rfl, _, _, rfl, _, _, rfl, rfl, hw _ _, ?_⟩
    dsimp only [tYes]
    rw [if_pos rfl]
    refine (he t (List.mem_of_getElem? ht) H2 g.same _ fun q nq => ?_)
    rw [take_snoc ht, List.map_append]
    refine g.step nD nq (G t).1 (G t).2 ?_
    have : m < f.length := (List.getElem?_eq_some_iff.mp ht).1
    rw [List.length_map, List.length_take]
    omega
  · intro H2 g
    rw [hP.len, List.take_length] at g
    exact k D H2 nD g
/-- the same over a list of pairs -/
theorem lcL (G : Int × Int → Int × Int) (hv : σ[n]? = some (some (.ref a))) (hs : SqL K H a xs) (hP : Prs K H xs f) (hl : f.length ≤ 1000000)
    (hw : ∀ x y, wipe (((wipe σ vs).set i (some x)).set j (some y)) vs = wipe σ vs)
    (he : ∀ t ∈ f, ∀ H2, Same H H2 → ∀ R : VK, (∀ q, H2 q = none → R (.ref q) (upd H2 q (.tup [.int (G t).1, .int (G t).2]))) → te (((wipe σ vs).set i (some (.int t.1))).set j (some (.int t.2))) H2 R)
    (k : ∀ D H2, H D = none → Grow K H D (f.map G) H2 → Q (.ref D) H2) : tLc (iList K (tVar n)) (gTup K 2 (gCons (gName i) (gCons (gName j) gNil))) tYes te vs σ H Q := by
  refine ⟨_, hv, a, rfl, ⟨_, hs⟩, fun D nD => lc_list (K := K) (a := a) (xs := xs) (fun m H2 => Grow K H D ((f.take m).map G) H2) (.start nD) (fun m H2 _ g => same_l g.same hs) ?_ ?_⟩
  · intro m x H2 hm g
    obtain ⟨t, ht, b, rfl, hb⟩ := hP.get hm
    refine ⟨b, _, rfl, same_t g.same hb, rfl, _, _, rfl, _, _, rfl, rfl, hw _ _, ?_⟩
    dsimp only [tYes]
    rw [if_pos rfl]
    refine (he t (List.mem_of_getElem? ht) H2 g.same _ fun q nq => ?_)
    rw [take_snoc ht, List.map_append]
    refine g.step nD nq (G t).1 (G t).2 ?_
    have : m < f.length := (List.getElem?_eq_some_iff.mp ht).1
    rw [List.length_map, List.length_take]
    omega
  · intro H2 g
    rw [hP.len, List.take_length] at g
    exact k D H2 nD g
/-- [(.., ..) for k in range(n)] -/
theorem lcR (G : Nat → Int × Int) {c : Int} {tn : TE} (hv : ∀ R : VK, R (.int c) H → tn σ H R) (h0 : 0 ≤ c) (hl : c ≤ 1000000)
    (hw : ∀ x, wipe ((wipe σ vs).set i (some x)) vs = wipe σ vs)
    (he : ∀ m, m < c.toNat → ∀ H2, Same H H2 → ∀ R : VK, (∀ q, H2 q = none → R (.ref q) (upd H2 q (.tup [.int (G m).1, .int (G m).2]))) → te ((wipe σ vs).set i (some (.int (0 + (m : Int))))) H2 R)
    (k : ∀ D H2, H D = none → Grow K H D ((List.range c.toNat).map G) H2 → Q (.ref D) H2) : tLc (iRng1 (tCons tn tNil)) (gName i) tYes te vs σ H Q := by
  refine hv _ ⟨c, rfl, by omega, by omega, fun D nD => lc_range (lo := 0) (n := c.toNat) (fun m H2 => Grow K H D ((List.range m).map G) H2) (.start nD) ?_ fun H2 g => k D H2 nD g⟩
  intro m H2 hm g
  refine ⟨hw _, ?_⟩
  dsimp only [tYes]
  rw [if_pos rfl]
  refine (he m hm H2 g.same _ fun q nq => ?_)
  rw [List.range_succ, List.map_append]
  refine g.step nD nq (G m).1 (G m).2 ?_
  rw [List.length_map, List.length_range]
  omega
end
theorem Grow.lpol {K : PySem.W.Frag} {H0 H : Hp} {D : Addr} {f : Pol} (g : Grow K H0 D f H) : LPol K H (.ref D) f := by
  obtain ⟨xs, h1, h2⟩ := g.ex
  exact ⟨D, xs, rfl, SqL.of h1, h2⟩
/-- tuple(the list of pairs) -/
theorem rd_tuple {K : PySem.W.Frag} {H0 H : Hp} {D : Addr} {f : Pol} {Q : VK} (g : Grow K H0 D f H) (k : ∀ v H', Same H0 H' → TPol K H' v f → Q v H') :
    ∃ p ys, [V.ref D] = [V.ref p] ∧ ((SqL K H p ys ∧ ∀ l, H l = none → Q (.ref l) (upd H l (.tup ys))) ∨ (SqT K H p ys ∧ Q (.ref p) H)) := by
  obtain ⟨xs, h1, h2⟩ := g.ex
  exact ⟨D, xs, rfl, .inl ⟨SqL.of h1, fun l nl => k _ _ (g.same.trans (same_new nl)) ⟨l, xs, rfl, SqT.of upd_same, Prs.tp (tp_new nl) h2⟩⟩⟩
/-! ### a def as the top leaves it -/
structure Df (K : PySem.W.Frag) (mg : Str → Option Value) (x : Str) (st : Stmt) : Prop where
  ex : ∃ (f : Addr) (fd : FuncData), Fun K x x st f fd ∧ mg x = some (.ref f) ∧ PySem.W.keepIn K (.ref f) = true
theorem df_mk {K : PySem.W.Frag} {h : Heap} {mg : Str → Option Value} {x : Str} {st : Stmt} {f : Addr} {oc : Value} {od an : Option Addr} {osl : Array (Option Value)} {kV doc pm cdv ct : Value} (X : K.In h) (G : h.Ns mainGlobals mg)
    (a : PySem.W.nsIn K mainGlobals x = some (some (.ref f))) (l : K.lookup f = some ⟨oc, od, .func (PySem.W.fnOf x x (defArgs st) (defBody st) (defScope st) .none kV doc pm an cdv ct), osl⟩) (c : PySem.W.codeIn K cdv x = true) (k : PySem.W.keepIn K (.ref f) = true) : Df K mg x st :=
  ⟨f, _, fun_mk (st := st) l c k, PySem.W.mg_of X G a, k⟩
theorem cal_of {P : Program} {w : World} {K : PySem.W.Frag} {mg : Str → Option Value} {base : Heap} {k : Nat} {x : Str} {st : Stmt} {ps : List Str} {sp : Sp} (D : Df K mg x st)
    (b : ∀ (kV doc pm : Value) (an : Option Addr) (cdv ct : Value) (us : List Value), us.length = ps.length → bindArgs (PySem.W.fnOf x x (defArgs st) (defBody st) (defScope st) .none kV doc pm an cdv ct) ⟨us, []⟩ = pure (ps.zip us))
    (ok : ∀ f fd, Fun K x x st f fd → FnOk P w K mg base CX0 k f fd ps sp) : Cal P w K mg base k x sp := by
  obtain ⟨f, fd, F, hm, kp⟩ := D.ex
  exact ⟨f, fd, ps, ok f fd F, hm, kp, F.binds b⟩
/-- the law's own def -/
theorem law_of {l : PySem.W.OpenLaw} {w : World} {K : PySem.W.Frag} {mg : Str → Option Value} {fa : Addr} {x y : Str} {st : Stmt} {sp : Sp} (hfa : mg x = some (.ref fa)) (D : Df K mg x st)
    (b : ∀ (kV doc pm : Value) (an : Option Addr) (cdv ct : Value) (s : Shared) (v : Value), BindsTo s (PySem.W.fnOf x x (defArgs st) (defBody st) (defScope st) .none kV doc pm an cdv ct) ⟨[v], []⟩ [(y, v)])
    (ok : ∀ (base : Heap) f fd, Fun K x x st f fd → Kept l.prog w K mg base f fd [y] sp) :
    ∃ fd : FuncData, (∀ (s : Shared) (v : Value), BindsTo s fd ⟨[v], []⟩ [(y, v)]) ∧ ∀ base : Heap, K.In base → base.Ns mainGlobals mg → Kept l.prog w K mg base fa fd [y] sp := by
  obtain ⟨f, fd, F, hm, kp⟩ := D.ex
  cases hfa.symm.trans hm
  refine ⟨fd, ?_, fun base _ _ => ok base fa fd F⟩
  obtain ⟨_, _, kV, doc, pm, an, cdv, ct, _, rfl, _⟩ := F.ex
  exact b kV doc pm an cdv ct
theorem gName_app {i : Nat} {v : V} {σ : L2.St} {H : Hp} {Q : L2.St → Hp → Prop} : gName i v σ H Q = Q (σ.set i (some v)) H := rfl
end DR
namespace DR
open PySem PySem.Spec PyProof.Rows L2
/-! ### the pen that draws from the script -/
theorem n_cu : ¬ ((Sum.inr ("cells" : Str) : Key) = Sum.inr ("used" : Str)) := by decide +kernel
theorem n_cl : ¬ ((Sum.inr ("cells" : Str) : Key) = Sum.inr ("left" : Str)) := by decide +kernel
theorem n_ul : ¬ ((Sum.inr ("used" : Str) : Key) = Sum.inr ("left" : Str)) := by decide +kernel
theorem n_uc : ¬ ((Sum.inr ("used" : Str) : Key) = Sum.inr ("cells" : Str)) := by decide +kernel
theorem n_lc : ¬ ((Sum.inr ("left" : Str) : Key) = Sum.inr ("cells" : Str)) := by decide +kernel
theorem n_lu : ¬ ((Sum.inr ("left" : Str) : Key) = Sum.inr ("used" : Str)) := by decide +kernel
def penKv (c : Addr) (u l : Int) : List (Key × V) := [(Sum.inr ("cells" : Str), .ref c), (Sum.inr ("used" : Str), .int u), (Sum.inr ("left" : Str), .int l)]
section
variable (c : Addr) (u l x : Int)
theorem pen_cells : valV (penKv c u l) (Sum.inr ("cells" : Str) : Key) = some (.ref c) := valV_pos rfl
theorem pen_used : valV (penKv c u l) (Sum.inr ("used" : Str) : Key) = some (.int u) := by
  unfold penKv
  rw [valV_neg n_cu, valV_pos rfl]
theorem pen_left : valV (penKv c u l) (Sum.inr ("left" : Str) : Key) = some (.int l) := by
  unfold penKv
  rw [valV_neg n_cl, valV_neg n_ul, valV_pos rfl]
theorem pen_setU : putK (penKv c u l) (Sum.inr ("used" : Str) : Key) (.int x) = penKv c x l := by
  unfold putK
  rw [valV_any, pen_used, if_pos (by rfl)]
  unfold penKv
  rw [List.map_cons, List.map_cons, List.map_cons, List.map_nil, if_neg n_cu, if_pos rfl, if_neg n_lu]
theorem pen_setL : putK (penKv c u l) (Sum.inr ("left" : Str) : Key) (.int x) = penKv c u x := by
  unfold putK
  rw [valV_any, pen_left, if_pos (by rfl)]
  unfold penKv
  rw [List.map_cons, List.map_cons, List.map_cons, List.map_nil, if_neg n_cl, if_neg n_ul, if_pos rfl]
theorem pen_merge : mergeK [] (penKv c u l) = penKv c u l := by
  have e1 : putK ([] : List (Key × V)) (Sum.inr ("cells" : Str)) (.ref c) = [(Sum.inr ("cells" : Str), .ref c)] := putK_new _ valV_nil
  have e2 : putK ([(Sum.inr ("cells" : Str), .ref c)] : List (Key × V)) (Sum.inr ("used" : Str)) (.int u) = [(Sum.inr ("cells" : Str), .ref c), (Sum.inr ("used" : Str), .int u)] := putK_new _ (by rw [valV_neg n_cu]; exact valV_nil)
  have e3 : putK ([(Sum.inr ("cells" : Str), .ref c), (Sum.inr ("used" : Str), .int u)] : List (Key × V)) (Sum.inr ("left" : Str)) (.int l) = penKv c u l := putK_new _ (by rw [valV_neg n_cl, valV_neg n_ul]; exact valV_nil)
  show putK (putK (putK ([] : List (Key × V)) (Sum.inr ("cells" : Str)) (.ref c)) (Sum.inr ("used" : Str)) (.int u)) (Sum.inr ("left" : Str)) (.int l) = _
  rw [e1, e2, e3]
end
/-- a pen at p, its cells at c, that has drawn at most n numbers -/
structure PenAt (H : Hp) (p c : Addr) (n : Nat) : Prop where
  ex : ∃ (ns : List Int) (u l : Int), H p = some (.dK (penKv c u l)) ∧ H c = some (.lst (ns.map V.int)) ∧ 0 ≤ u ∧ u ≤ n
section
variable {H H' : Hp} {p c : Addr} {n m : Nat}
theorem PenAt.dict (h : PenAt H p c n) : ∃ kvs, H p = some (.dK kvs) := by
  obtain ⟨ns, u, l, h1, _⟩ := h.ex
  exact ⟨_, h1⟩
theorem PenAt.cells (h : PenAt H p c n) : ∃ xs, H c = some (.lst xs) := by
  obtain ⟨ns, u, l, _, h2, _⟩ := h.ex
  exact ⟨_, h2⟩
theorem PenAt.np {q : Addr} (h : PenAt H p c n) (hq : H q = none) : q ≠ p := (h.dict.elim fun _ e => ne_of_none e hq).symm
theorem PenAt.nc {q : Addr} (h : PenAt H p c n) (hq : H q = none) : q ≠ c := (h.cells.elim fun _ e => ne_of_none e hq).symm
theorem PenAt.mono (h : PenAt H p c n) (e : n ≤ m) : PenAt H p c m := by
  obtain ⟨ns, u, l, h1, h2, h3, h4⟩ := h.ex
  exact ⟨ns, u, l, h1, h2, h3, by omega⟩
theorem PenAt.same (h : PenAt H p c n) (s : Same H H') : PenAt H' p c n := by
  obtain ⟨ns, u, l, h1, h2, h3⟩ := h.ex
  exact ⟨ns, u, l, s _ _ h1, s _ _ h2, h3⟩
/-- another object changes -/
theorem PenAt.upd {q : Addr} {o : HO} (h : PenAt H p c n) (h1 : q ≠ p) (h2 : q ≠ c) : PenAt (upd H q o) p c n := by
  obtain ⟨ns, u, l, a1, a2, a3⟩ := h.ex
  exact ⟨ns, u, l, by rw [upd_ne h1.symm]; exact a1, by rw [upd_ne h2.symm]; exact a2, a3⟩
theorem PenAt.tp (h : PenAt H p c n) (k : Kp p H H') : Tp H H' := h.dict.elim fun _ e => k.tp e
end
end DR
namespace DR
open PySem PySem.Spec PyProof.Rows L2
/-! ### what the defs promise -/
/-- a polynomial of the law's: canonical, with at most so many terms, its exponents within reach -/
structure Drawn (q : Int) (g : Pol) (terms : Nat) (reach : Int) : Prop where
  nf : Nf q g (cf g)
  len : g.length ≤ terms
  abs : ∀ t ∈ g, t.1.natAbs ≤ reach.natAbs
def primes : List Int := [2, 3, 5, 7, 11, 13, 17, 19, 23, 29, 31, 37, 41, 43, 47, 53, 59, 61, 67, 71, 73, 79, 83, 89, 97]
theorem prime_rng : ∀ q ∈ primes, 2 ≤ q ∧ q ≤ 97 := by decide
def sp_from_sums (K : PySem.W.Frag) : Sp := fun vs H Q _ => ∃ (p : Int) (d : Addr) (m : Pol), vs = [.int p, .ref d] ∧ 0 < p ∧ H d = some (.dK (kvOf m)) ∧ (m.map (·.1)).Nodup ∧ m.length ≤ 1000000 ∧ ∀ v H' g, Same H H' → TPol K H' v g → Nf p g (cf m) → Q v H'
def sp_normalize (K : PySem.W.Frag) : Sp := fun vs H Q _ => ∃ (p : Int) (v : V) (ps : Pol), vs = [.int p, v] ∧ 0 < p ∧ (TPol K H v ps ∨ LPol K H v ps) ∧ ps.length ≤ 1000000 ∧ ∀ u H' g, Same H H' → TPol K H' u g → Nf p g (cf ps) → Q u H'
def sp_scale (K : PySem.W.Frag) : Sp := fun vs H Q _ => ∃ (p : Int) (v : V) (f : Pol) (c : Int), vs = [.int p, v, .int c] ∧ 0 < p ∧ TPol K H v f ∧ f.length ≤ 1000000 ∧ (∀ t ∈ f, -(2 ^ 64) < t.2 ∧ t.2 < 2 ^ 64) ∧ ∀ u H' g, Same H H' → TPol K H' u g → Nf p g (fun e => cf f e * c) → Q u H'
def sp_move (K : PySem.W.Frag) : Sp := fun vs H Q _ => ∃ (v : V) (f : Pol) (n : Int), vs = [v, .int n] ∧ TPol K H v f ∧ f.length ≤ 1000000 ∧ ∀ u H', Same H H' → TPol K H' u (moved n f) → Q u H'
def sp_geometric (K : PySem.W.Frag) : Sp := fun vs H Q _ => ∃ (p n s : Int), vs = [.int p, .int n, .int s] ∧ 0 < p ∧ 0 ≤ n ∧ n ≤ 1000000 ∧ ∀ u H' g, Same H H' → TPol K H' u g → Nf p g (cf (rounds n.toNat s)) → Q u H'
def sp_add (K : PySem.W.Frag) : Sp := fun vs H Q _ => ∃ (p : Int) (v1 v2 : V) (f g : Pol), vs = [.int p, v1, v2] ∧ 0 < p ∧ TPol K H v1 f ∧ TPol K H v2 g ∧ f.length + g.length ≤ 1000000 ∧ ∀ u H' r, Same H H' → TPol K H' u r → Nf p r (fun e => cf f e + cf g e) → Q u H'
def sp_subtract (K : PySem.W.Frag) : Sp := fun vs H Q _ => ∃ (p : Int) (v1 v2 : V) (f g : Pol), vs = [.int p, v1, v2] ∧ 0 < p ∧ TPol K H v1 f ∧ TPol K H v2 g ∧ f.length + g.length ≤ 1000000 ∧ (∀ t ∈ g, -(2 ^ 64) < t.2 ∧ t.2 < 2 ^ 64) ∧ ∀ u H' r, Same H H' → TPol K H' u r → Nf p r (fun e => cf f e - cf g e) → Q u H'
def sp_multiply (K : PySem.W.Frag) : Sp := fun vs H Q _ => ∃ (p : Int) (v1 v2 : V) (f g : Pol), vs = [.int p, v1, v2] ∧ 0 < p ∧ TPol K H v1 f ∧ TPol K H v2 g ∧ f.length * g.length ≤ 1000000 ∧ (∀ t ∈ f, -(2 ^ 64) < t.2 ∧ t.2 < 2 ^ 64) ∧ ∀ u H' r, Same H H' → TPol K H' u r → Nf p r (cf (prods f g)) → Q u H'
def sp__law_pen (K : PySem.W.Frag) : Sp := fun vs H Q _ => ∃ (a : Addr) (ns : List Int), vs = [.ref a] ∧ SqL K H a (ns.map V.int) ∧ ∀ p c H', H p = none → Same H H' → PenAt H' p c 0 → Q (.ref p) H'
def sp__law_draw : Sp := fun vs H Q _ => ∃ (p c : Addr) (many : Int) (n : Nat), vs = [.ref p, .int many] ∧ 0 < many ∧ many.natAbs < 2 ^ 400 ∧ PenAt H p c n ∧ n < 2 ^ 40 ∧ ∀ r H', 0 ≤ r → r < many → Kp p H H' → PenAt H' p c (n + 1) → Q (.int r) H'
def sp__law_pick : Sp := fun vs H Q _ => ∃ (p c o : Addr) (n : Nat) (xs : List V), vs = [.ref p, .ref o] ∧ PenAt H p c n ∧ n < 2 ^ 40 ∧ H o = some (.lst xs) ∧ 0 < xs.length ∧ xs.length ≤ 100000 ∧ ∀ v H', v ∈ xs → Kp p H H' → PenAt H' p c (n + 1) → Q v H'
def sp__law_prime : Sp := fun vs H Q _ => ∃ (p c : Addr) (n : Nat), vs = [.ref p] ∧ PenAt H p c n ∧ n + 2 < 2 ^ 40 ∧ ∀ q H', q ∈ primes → Kp p H H' → PenAt H' p c (n + 2) → Q (.int q) H'
def sp__law_integer : Sp := fun vs H Q _ => ∃ (p c : Addr) (most : Int) (n : Nat), vs = [.ref p, .int most] ∧ 0 ≤ most ∧ most.natAbs < 10 ^ 90 ∧ PenAt H p c n ∧ n < 2 ^ 40 ∧ ∀ r H', r.natAbs ≤ most.natAbs → Kp p H H' → PenAt H' p c (n + 1) → Q (.int r) H'
def sp__law_polynomial (K : PySem.W.Frag) : Sp := fun vs H Q _ => ∃ (p c : Addr) (q terms reach : Int) (n : Nat), vs = [.ref p, .int q, .int terms, .int reach] ∧ 2 ≤ q ∧ q ≤ 97 ∧ 0 ≤ terms ∧ terms ≤ 1000 ∧ 0 ≤ reach ∧ reach.natAbs < 10 ^ 90 ∧ PenAt H p c n ∧ n < 2 ^ 39 ∧
  ∀ v H' g, Kp p H H' → PenAt H' p c (n + 2 * terms.toNat + 1) → TPol K H' v g → Drawn q g terms.toNat reach → Q v H'
theorem mul_room {i j a b : Nat} (hi : i < a) (hj : j < b) (h : a * b ≤ 1000000) : i * b + j < 1000000 := by
  have h1 : (i + 1) * b ≤ a * b := Nat.mul_le_mul_right b hi
  rw [Nat.add_mul, Nat.one_mul] at h1
  omega
theorem neg_mod (a b c p : Int) (h : c = b * -1 % p) : (a + c) % p = (a - b) % p := by
  rw [h, Int.add_emod_emod]
  congr 1
  omega
theorem sm_nf {q : Int} {g : Pol} {F : Int → Int} {L : List Int} (h : Nf q g F) (hq : q ≤ 97) (z : ∀ e, e ∉ L → F e % q = 0) (hl : L.length ≤ 50000) (hb : ∀ e ∈ L, e.natAbs < 10 ^ 100) : Sm g := by
  refine ⟨Nat.le_trans (h.len z) hl, fun t ht => ⟨hb _ (h.sub z t ht), ?_⟩⟩
  have := h.rng t ht
  exact Nat.lt_of_le_of_lt (show t.2.natAbs ≤ 97 by omega) (by decide +kernel)
theorem sm_moved {g : Pol} {n : Int} {q : Int} (hl : g.length ≤ 50000) (hb : ∀ t ∈ g, t.1.natAbs < 10 ^ 95 ∧ 0 < t.2 ∧ t.2 ≤ 97) (hn : n.natAbs < 10 ^ 95) : Sm (moved n g) := by
  refine ⟨by unfold moved; rw [List.length_map]; exact hl, fun t ht => ?_⟩
  obtain ⟨u, hu, rfl⟩ := List.mem_map.mp (show t ∈ g.map fun t => (t.1 + n, t.2) from ht)
  have h1 := hb u hu
  refine ⟨?_, Nat.lt_of_le_of_lt (show u.2.natAbs ≤ 97 by omega) (by decide +kernel)⟩
  have e : 10 ^ 95 + 10 ^ 95 < 10 ^ 100 := by decide +kernel
  show (u.1 + n).natAbs < 10 ^ 100
  omega
theorem drawn_sm {q : Int} {g : Pol} {terms : Nat} {reach : Int} (d : Drawn q g terms reach) (hq : q ≤ 97) (ht : terms ≤ 50000) (hr : reach.natAbs < 10 ^ 90) : Sm g := by
  refine ⟨Nat.le_trans d.len ht, fun t h => ⟨?_, ?_⟩⟩
  · have e : 10 ^ 90 < 10 ^ 100 := by decide +kernel
    have := d.abs t h
    omega
  · have := d.nf.rng t h
    exact Nat.lt_of_le_of_lt (show t.2.natAbs ≤ 97 by omega) (by decide +kernel)
theorem mem_ints {v : V} {ns : List Int} {R : Int → Prop} (h : v ∈ ns.map V.int) (a : ∀ x ∈ ns, R x) : ∃ x, v = .int x ∧ R x := by
  obtain ⟨x, hx, rfl⟩ := List.mem_map.mp h
  exact ⟨x, rfl, a x hx⟩
def sp_law (K : PySem.W.Frag) : Sp := fun vs H Q _ => ∃ (a : Addr) (ns : List Int), vs = [.ref a] ∧ SqL K H a (ns.map V.int) ∧ ns.length ≤ 63 ∧ ∀ H', Q (.bl true) H'
/-! ### effects -/
def TEff (K : PySem.W.Frag) (H : Hp) (v : V) (f : Pol) (n : Int) : Prop := ∃ a x, v = .ref a ∧ SqT K H a [x, .int n] ∧ TPol K H x f
theorem TEff.tp {K : PySem.W.Frag} {H H' : Hp} {v : V} {f : Pol} {n : Int} (e : Tp H H') (h : TEff K H v f n) : TEff K H' v f n := by
  obtain ⟨a, x, rfl, hs, hx⟩ := h
  exact ⟨a, x, rfl, tp_t e hs, hx.tp e⟩
def ed (f : Pol) (n : Int) : PyData := .tuple [pd f, .int n]
theorem TEff.dp {K : PySem.W.Frag} {H : Hp} {v : V} {f : Pol} {n : Int} (h : TEff K H v f n) : Dp K H v (ed f n) := by
  obtain ⟨a, x, rfl, hs, hx⟩ := h
  exact .tup hs (.cons hx.dp (.cons (.int _) .nil))
theorem TEff.shows {K : PySem.W.Frag} {H : Hp} {v : V} {f : Pol} {n : Int} (h : TEff K H v f n) (s : Sm f) (hn : n.natAbs < 10 ^ 100) : Shows K H v (ed f n) := by
  obtain ⟨a1, a2, a3, a4⟩ := pd_shows s
  obtain ⟨b1, b2⟩ := int_shows hn
  have := s.len
  refine ⟨h.elim fun a z => z.elim fun _ y => ⟨a, y.1⟩, h.dp, ?_, ?_, ?_, ?_⟩
  · show ((pd f).showable && ((PyData.int n).showable && true)) = true
    rw [a1, b1]
    rfl
  · show ((pd f).hasDict || (false || false)) = false
    rw [a2]
    rfl
  · show max (pd f).depth (max 0 0) + 1 ≤ 64
    omega
  · show (tupleText [(pd f).shown, (PyData.int n).shown]).length ≤ sizeLine
    have e := tupleText_len_le [(pd f).shown, (PyData.int n).shown]
    simp only [List.map_cons, List.map_nil, List.sum_cons, List.sum_nil, List.length_cons, List.length_nil] at e
    rw [sizeLine_eq]
    omega
theorem ed_shaped (f : Pol) (n : Int) : SeqAt.shaped (ed f n) = true := by
  obtain ⟨a, b⟩ := prs_lay f
  show (((PyData.canLayAll0 (f.map pr)) && (true && true)) && decide (max (PyData.depthAll (f.map pr) + 1) (max 0 0) + 1 ≤ 64)) = true
  rw [a, decide_eq_true (by omega)]
  rfl
def sp_compose (K : PySem.W.Frag) : Sp := fun vs H Q _ => ∃ (p : Int) (v1 v2 : V) (f g : Pol) (m n : Int), vs = [.int p, v1, v2] ∧ 0 < p ∧ TEff K H v1 f m ∧ TEff K H v2 g n ∧ f.length + g.length ≤ 1000000 ∧ ∀ u H' r, Same H H' → TEff K H' u r (m + n) → Nf p r (fun e => cf f e + cf g (e - m)) → Q u H'
def sp_inverse (K : PySem.W.Frag) : Sp := fun vs H Q _ => ∃ (p : Int) (v : V) (f : Pol) (m : Int), vs = [.int p, v] ∧ 0 < p ∧ TEff K H v f m ∧ f.length ≤ 1000000 ∧ (∀ t ∈ f, -(2 ^ 64) < t.2 ∧ t.2 < 2 ^ 64) ∧ ∀ u H' r, Same H H' → TEff K H' u r (-m) → Nf p r (fun e => cf f (e + m) * -1) → Q u H'
def sp__law_effect (K : PySem.W.Frag) : Sp := fun vs H Q _ => ∃ (p c : Addr) (q terms reach : Int) (n : Nat), vs = [.ref p, .int q, .int terms, .int reach] ∧ 2 ≤ q ∧ q ≤ 97 ∧ 0 ≤ terms ∧ terms ≤ 1000 ∧ 0 ≤ reach ∧ reach.natAbs < 10 ^ 90 ∧ PenAt H p c n ∧ n < 2 ^ 38 ∧
  ∀ v H' g sh, Kp p H H' → PenAt H' p c (n + 2 * terms.toNat + 3) → TEff K H' v g sh → Drawn q g terms.toNat reach → sh.natAbs ≤ reach.natAbs → Q v H'
theorem atI3 {a b c : V} {r : Int} (h0 : 0 ≤ r) (h9 : r < 3) : atI [a, b, c] r = some a ∨ atI [a, b, c] r = some b ∨ atI [a, b, c] r = some c := by
  have : r = 0 ∨ r = 1 ∨ r = 2 := by omega
  rcases this with rfl | rfl | rfl
  · exact .inl rfl
  · exact .inr (.inl rfl)
  · exact .inr (.inr rfl)
theorem moved_len (n : Int) (f : Pol) : (moved n f).length = f.length := by
  unfold moved
  rw [List.length_map]
/-! ### a comprehension that draws -/
theorem lcPen {K : PySem.W.Frag} {p c : Addr} {σ : L2.St} {H : Hp} {vs : List Nat} {i : Nat} {te : TE} {Q : VK} (R : Hp → V → Prop) (stay : ∀ {H H' : Hp} {v : V}, Tp H H' → R H v → R H' v) (n : Nat) {z : Int} (hz : z = (n : Int)) (b cost : Nat) (hn : n ≤ 1000)
    (hw : ∀ x, wipe ((wipe σ vs).set i (some x)) vs = wipe σ vs) (pen : PenAt H p c b)
    (he : ∀ (m : Nat), m < n → ∀ H2, Kp p H H2 → PenAt H2 p c (b + cost * m) → ∀ S : VK, (∀ v H3, Kp p H2 H3 → PenAt H3 p c (b + cost * (m + 1)) → R H3 v → S v H3) → te ((wipe σ vs).set i (some (.int (0 + (m : Int))))) H2 S)
    (k : ∀ D xs H2, xs.length = n → H2 D = some (.lst xs) → (∀ v ∈ xs, R H2 v) → Kp p H H2 → PenAt H2 p c (b + cost * n) → Q (.ref D) H2) : tLc (iRng1 (tCons (tC (.int z)) tNil)) (gName i) tYes te vs σ H Q := by
  subst hz
  refine ⟨(n : Int), rfl, by omega, by omega, fun D nD => lc_range (lo := 0) (n := ((n : Int)).toNat) (fun m H2 => ∃ xs, H2 D = some (.lst xs) ∧ xs.length = m ∧ (∀ v ∈ xs, R H2 v) ∧ Kp p H H2 ∧ PenAt H2 p c (b + cost * m)) ⟨[], upd_same, rfl, fun v h => absurd h List.not_mem_nil, Same.kp (same_new nD), pen.same (same_new nD)⟩ ?_ ?_⟩
  · rintro m H2 hm ⟨xs, hD, hl, hR, kp, pen2⟩
    refine ⟨hw _, ?_⟩
    dsimp only [tYes]
    rw [if_pos rfl]
    refine he m (by omega) H2 kp pen2 _ fun v H3 k3 pen3 hv => ?_
    have npD := pen.np nD
    have ncD := pen.nc nD
    have hD3 : H3 D = some (.lst xs) := k3 _ _ npD hD
    refine ⟨xs, hD3, sl_lt (by omega), xs ++ [v], upd_same, by rw [List.length_append, hl]; rfl, fun w hw' => ?_, fun x o nx ex => ?_, pen3.upd npD ncD⟩
    · have t3 : Tp H3 (upd H3 D (.lst (xs ++ [v]))) := tp_lst hD3
      rcases List.mem_append.mp hw' with h | h
      · exact stay ((pen2.tp k3).trans t3) (hR w h)
      · have e : w = v := by simpa using h
        rw [e]
        exact stay t3 hv
    · rw [upd_ne (ne_of_none ex nD)]
      exact k3 _ _ nx (kp _ _ nx ex)
  · rintro H2 ⟨xs, hD, hl, hR, kp, pen2⟩
    exact k D xs H2 (by rw [hl]; omega) hD hR kp (pen2.mono (by rw [Int.toNat_natCast]; exact Nat.le_refl _))
theorem three {α : Type} {xs : List α} (h : xs.length = 3) : ∃ a b c, xs = [a, b, c] := by
  match xs, h with
  | [a, b, c], _ => exact ⟨a, b, c, rfl⟩
/-! ### comparisons of data -/
theorem iteE {A B : Prop} (r : Pol) (h : B) : if (!PyData.eqv (pd r) (pd r)) = true then A else B := by
  rw [SeqAt.eqv_refl _ (SeqAt.canLay_of_shaped (pd_shaped r))]
  exact iteF h
theorem iteEE {A B : Prop} (r : Pol) (n : Int) (h : B) : if (!PyData.eqv (ed r n) (ed r n)) = true then A else B := by
  rw [SeqAt.eqv_refl _ (SeqAt.canLay_of_shaped (ed_shaped r n))]
  exact iteF h
theorem eqv_nil (f : Pol) : PyData.eqv (pd f) (pd []) = decide (f = []) := by
  cases f with
  | nil => rfl
  | cons t r => rfl
theorem Nf.cfs {q : Int} {g : Pol} {F : Int → Int} (h : Nf q g F) (hq : q ≤ 97) : ∀ t ∈ g, -(2 ^ 64) < t.2 ∧ t.2 < 2 ^ 64 := fun t ht => by
  have := h.rng t ht
  omega
theorem len_add {q : Int} {f g r : Pol} (N : Nf q r (fun e => cf f e + cf g e)) : r.length ≤ f.length + g.length := by
  have := N.len (L := f.map (·.1) ++ g.map (·.1)) fun e he => by
    rw [cf_out (fun z => he (List.mem_append_left _ z)), cf_out (fun z => he (List.mem_append_right _ z))]
    rfl
  rw [List.length_append, List.length_map, List.length_map] at this
  exact this
theorem len_sub {q : Int} {f g r : Pol} (N : Nf q r (fun e => cf f e - cf g e)) : r.length ≤ f.length + g.length := by
  have := N.len (L := f.map (·.1) ++ g.map (·.1)) fun e he => by
    rw [cf_out (fun z => he (List.mem_append_left _ z)), cf_out (fun z => he (List.mem_append_right _ z))]
    rfl
  rw [List.length_append, List.length_map, List.length_map] at this
  exact this
theorem len_mul {q : Int} {f g r : Pol} (N : Nf q r (cf (prods f g))) : r.length ≤ f.length * g.length := by
  have := N.len (L := (prods f g).map (·.1)) fun e he => by
    rw [cf_out he]
    rfl
  rw [List.length_map, prods_len] at this
  exact this
theorem len_scale {q k : Int} {f r : Pol} (N : Nf q r (fun e => cf f e * k)) : r.length ≤ f.length := by
  have := N.len (L := f.map (·.1)) fun e he => by
    rw [cf_out he, Int.zero_mul]
    rfl
  rw [List.length_map] at this
  exact this
theorem nf_nil {q : Int} {F : Int → Int} (h : ∀ e, F e % q = 0) : Nf q [] F := ⟨.nil, fun t h => absurd h List.not_mem_nil, fun e => by rw [h]; rfl⟩
theorem nz_check : (primes.all fun q => (List.range q.toNat).all fun a => (List.range q.toNat).all fun b => a == 0 || b == 0 || (a * b % q.toNat != 0)) = true := by decide +kernel
theorem prime_nz {q : Int} (hq : q ∈ primes) {a b : Int} (ha : 0 < a) (ha' : a < q) (hb : 0 < b) (hb' : b < q) : a * b % q ≠ 0 := by
  intro h
  have h1 := List.all_eq_true.mp nz_check q hq
  have h2 := List.all_eq_true.mp h1 a.toNat (List.mem_range.mpr (by omega))
  have h3 := List.all_eq_true.mp h2 b.toNat (List.mem_range.mpr (by omega))
  simp only [Bool.or_eq_true, beq_iff_eq, bne_iff_ne, ne_eq] at h3
  rcases h3 with (h3 | h3) | h3
  · omega
  · omega
  · apply h3
    have e : ((a.toNat * b.toNat % q.toNat : Nat) : Int) = a * b % q := by
      rw [Int.natCast_emod, Int.natCast_mul, Int.toNat_of_nonneg (by omega), Int.toNat_of_nonneg (by omega), Int.toNat_of_nonneg (by omega)]
    rw [h] at e
    omega
theorem nf_one {q e c : Int} (h1 : 0 < c) (h2 : c < q) : Nf q [(e, c)] (cf [(e, c)]) := by
  refine ⟨List.pairwise_singleton _ _, fun t h => ?_, fun x => ?_⟩
  · have : t = (e, c) := by simpa using h
    rw [this]
    exact ⟨h1, h2⟩
  · rw [cf_cons, cf_nil]
    by_cases h : e = x
    · rw [if_pos h, Int.add_zero, Int.emod_eq_of_lt (by omega) h2]
    · rw [if_neg h]
      rfl
theorem len_rounds {q st : Int} {n : Nat} {r : Pol} {L : Nat} (N : Nf q r (cf (rounds n st))) (h : n ≤ L) : r.length ≤ L := by
  have := N.len (L := (rounds n st).map (·.1)) fun e he => by
    rw [cf_out he]
    rfl
  unfold rounds at this
  rw [List.length_map, List.length_map, List.length_range] at this
  omega
theorem len_comp {q m : Int} {f g r : Pol} (N : Nf q r (fun e => cf f e + cf g (e - m))) : r.length ≤ f.length + g.length := by
  have N' : Nf q r (fun e => cf f e + cf (moved m g) e) := N.to fun e => by rw [cf_moved]
  have := len_add N'
  rw [moved_len] at this
  exact this
theorem len_inv {q m : Int} {f r : Pol} (N : Nf q r (fun e => cf f (e + m) * -1)) : r.length ≤ f.length := by
  have N' : Nf q r (fun e => cf (moved (-m) f) e * -1) := N.to fun e => by rw [cf_moved, Int.sub_neg]
  have := len_scale N'
  rw [moved_len] at this
  exact this
theorem teff_sh {K : PySem.W.Frag} {H : Hp} {v : V} {f : Pol} {m n : Int} (e : m = n) (h : TEff K H v f m) : TEff K H v f n := by
  rw [← e]
  exact h
theorem undo_add (a b q : Int) : ((a + b) % q - b) % q = a % q := by
  rw [Int.sub_emod, Int.emod_emod, ← Int.sub_emod]
  congr 1
  omega
theorem geo_close {q st cnt : Int} {gap geo : Pol} (Ng : Nf q gap (fun e => cf [(0, 1)] e - cf [(st, 1)] e)) (No : Nf q geo (cf (rounds cnt.toNat st))) (h0 : 0 ≤ cnt) (e : Int) : cf (prods gap geo) e % q = (cf [(0, 1)] e - cf [(cnt * st, 1)] e) % q := by
  rw [cf_prods, conv_fst (f' := [(0, 1), (st, -1)]) (fun x => ?_) geo e, conv_mod (G' := cf (rounds cnt.toNat st)) (fun x => by rw [No.cof, Int.emod_emod])]
  · show (1 * cf (rounds cnt.toNat st) (e - 0) + (-1 * cf (rounds cnt.toNat st) (e - st) + 0)) % q = ((if 0 = e then 1 else 0) + 0 - ((if cnt * st = e then 1 else 0) + 0)) % q
    have h := rounds_tel st e cnt.toNat
    rw [Int.toNat_of_nonneg h0] at h
    congr 1
    rw [Int.sub_zero]
    omega
  · rw [Ng.cof, Int.emod_emod]
    congr 1
    show (if 0 = x then 1 else 0) + 0 - ((if st = x then 1 else 0) + 0) = (if 0 = x then 1 else 0) + ((if st = x then -1 else 0) + 0)
    by_cases h : st = x
    · rw [if_pos h, if_pos h]
      omega
    · rw [if_neg h, if_neg h]
      omega
theorem prod_ne {q : Int} {f g r : Pol} (hq : q ∈ primes) (nf : Nf q f (cf f)) (ng : Nf q g (cf g)) (nr : Nf q r (cf (prods f g))) (hf : f ≠ []) (hg : g ≠ []) : r ≠ [] := by
  intro hr
  obtain ⟨t, f', rfl⟩ := List.exists_cons_of_ne_nil hf
  obtain ⟨u, g', rfl⟩ := List.exists_cons_of_ne_nil hg
  have h := nr.cof (t.1 + u.1)
  rw [hr, cf_prods, conv_least nf.asc ng.asc] at h
  have a := nf.rng t List.mem_cons_self
  have b := ng.rng u List.mem_cons_self
  exact prime_nz hq a.1 a.2 b.1 b.2 h.symm
def sp_power0 (K : PySem.W.Frag) : Sp := fun vs H Q _ => ∃ (p : Int) (v : V) (f : Pol) (m c : Int), vs = [.int p, v, .int c] ∧ 0 < p ∧ TEff K H v f m ∧ 0 ≤ c ∧ c.natAbs ≤ 1000 ∧ f.length ≤ 1000 ∧ (∀ t ∈ f, -(2 ^ 64) < t.2 ∧ t.2 < 2 ^ 64) ∧ ∀ u H' r, Same H H' → TEff K H' u r (c * m) → Nf p r (fun e => pwF (cf f) m c e) → r.length ≤ f.length * c.natAbs → Q u H'
def sp_power (K : PySem.W.Frag) : Sp := fun vs H Q _ => ∃ (p : Int) (v : V) (f : Pol) (m c : Int), vs = [.int p, v, .int c] ∧ 0 < p ∧ p ≤ 97 ∧ TEff K H v f m ∧ c.natAbs ≤ 1000 ∧ f.length ≤ 1000 ∧ (∀ t ∈ f, -(2 ^ 64) < t.2 ∧ t.2 < 2 ^ 64) ∧ ∀ u H' r, Same H H' → TEff K H' u r (c * m) → Nf p r (fun e => pwF (cf f) m c e) → r.length ≤ f.length * c.natAbs → Q u H'
/-- order, of an effect that does not move -/
def sp_order (K : PySem.W.Frag) : Sp := fun vs H Q _ => ∃ (p : Int) (v : V) (f : Pol), vs = [.int p, v] ∧ TEff K H v f 0 ∧ Q (.int (if f = [] then 1 else p)) H
theorem Nf.subP {p : Int} {g : Pol} {F : Int → Int} {R : Int → Prop} (a : Nf p g F) (h : ∀ e, ¬ R e → F e % p = 0) : ∀ t ∈ g, R t.1 := fun t ht => by
  refine Classical.byContradiction fun n => ?_
  have e1 := a.cof t.1
  rw [cf_mem a.asc t ht, h _ n] at e1
  have := (a.rng t ht).1
  omega
theorem pow_sm {q m c : Int} {f r : Pol} (N : Nf q r (fun e => pwF (cf f) m c e)) (hq : q ≤ 97) (l : r.length ≤ 50000) (hf : ∀ t ∈ f, t.1.natAbs < 10 ^ 90) (hm : m.natAbs < 10 ^ 90) (hc : c.natAbs ≤ 1000) : Sm r := by
  refine ⟨l, fun t ht => ⟨N.subP (R := fun e => e.natAbs < 10 ^ 100) (fun e he => ?_) t ht, ?_⟩⟩
  · rw [pw_far c fun k hk => ?_]
    · rfl
    · refine cf_none f _ fun u hu z => he ?_
      have h1 := hf u hu
      have h2 : (k * m).natAbs ≤ 1000 * 10 ^ 90 := by
        rw [Int.natAbs_mul]
        exact Nat.mul_le_mul (Nat.le_trans hk hc) (Nat.le_of_lt hm)
      have h3 : 1000 * 10 ^ 90 + 10 ^ 90 < 10 ^ 100 := by decide +kernel
      have h4 : e = u.1 + k * m := by omega
      rw [h4]
      generalize k * m = km at h2
      omega
  · have := N.rng t ht
    exact Nat.lt_of_le_of_lt (show t.2.natAbs ≤ 97 by omega) (by decide +kernel)
end DR
namespace DR
open PySem PySem.Spec PyProof.Rows L2
/-! ### any data, and what is told of it -/
def tyName : PyData → String
  | .none => "NoneType"
  | .bool _ => "bool"
  | .int _ => "int"
  | .str _ => "str"
  | .list _ => "list"
  | .tuple _ => "tuple"
  | .dict _ => "dict"
def isTup : PyData → Bool
  | .tuple _ => true
  | _ => false
def isInt' : PyData → Bool
  | .int _ => true
  | .bool _ => true
  | _ => false
def isBool : PyData → Bool
  | .bool _ => true
  | _ => false
def isWhole : PyData → Bool
  | .int _ => true
  | _ => false
def isTerm (p : Int) : PyData → Bool
  | .tuple [.int _, .int c] => decide (1 ≤ c) && decide (c < p)
  | _ => false
def expo : PyData → Int
  | .tuple (.int e :: _) => e
  | _ => 0
def ascD : List PyData → Bool
  | x :: y :: r => decide (expo x < expo y) && ascD (y :: r)
  | _ => true
def isPoly (p : Int) : PyData → Bool
  | .tuple ds => ds.all (isTerm p) && ascD ds
  | _ => false
def isEff (p : Int) : PyData → Bool
  | .tuple [a, b] => isPoly p a && isWhole b
  | _ => false
/-- data, or an empty dict -/
def DpX (K : PySem.W.Frag) (H : Hp) (v : V) (d : PyData) : Prop := Dp K H v d ∨ ∃ a, v = .ref a ∧ H a = some (.dK []) ∧ d = .dict []
section
variable {K : PySem.W.Frag} {H H' : Hp} {v : V} {d : PyData}
theorem Dp.ty (h : Dp K H v d) : TyX K H v (.type (tyName d)) := by
  cases h with
  | non => exact .base .non
  | bl b => exact .base (.bl b)
  | int i => exact .base (.int i)
  | str x => exact .base (.str x)
  | lst hs _ =>
    rcases hs with (h | ⟨o, h⟩) | ⟨o, its, n, h, c, _⟩
    · exact .base (.lst h)
    · exact .base (.frz h)
    · exact .kList h c
  | tup hs _ =>
    rcases hs with (h | ⟨o, h⟩) | ⟨o, its, n, h, c, _⟩
    · exact .base (.tup h)
    · exact .fTuple h
    · exact .kTuple h c
theorem DpX.ty (h : DpX K H v d) : TyX K H v (.type (tyName d)) := by
  rcases h with h | ⟨a, rfl, h, rfl⟩
  · exact Dp.ty h
  · exact .base (.dK h)
theorem kit_tuple (d : PyData) : PySem.W.kitOne K (.type (tyName d)) (.type "tuple") = some (isTup d) := by
  cases d with
  | none => exact kit_ty (show kitB "NoneType" "tuple" = some false by decide +kernel)
  | bool b => exact kit_ty (show kitB "bool" "tuple" = some false by decide +kernel)
  | int i => exact kit_ty (show kitB "int" "tuple" = some false by decide +kernel)
  | str x => exact kit_ty (show kitB "str" "tuple" = some false by decide +kernel)
  | list xs => exact kit_ty (show kitB "list" "tuple" = some false by decide +kernel)
  | tuple xs => exact kit_ty (show kitB "tuple" "tuple" = some true by decide +kernel)
  | dict kvs => exact kit_ty (show kitB "dict" "tuple" = some false by decide +kernel)
theorem kit_int (d : PyData) : PySem.W.kitOne K (.type (tyName d)) (.type "int") = some (isInt' d) := by
  cases d with
  | none => exact kit_ty (show kitB "NoneType" "int" = some false by decide +kernel)
  | bool b => exact kit_ty (show kitB "bool" "int" = some true by decide +kernel)
  | int i => exact kit_ty (show kitB "int" "int" = some true by decide +kernel)
  | str x => exact kit_ty (show kitB "str" "int" = some false by decide +kernel)
  | list xs => exact kit_ty (show kitB "list" "int" = some false by decide +kernel)
  | tuple xs => exact kit_ty (show kitB "tuple" "int" = some false by decide +kernel)
  | dict kvs => exact kit_ty (show kitB "dict" "int" = some false by decide +kernel)
theorem kit_bool (d : PyData) : PySem.W.kitOne K (.type (tyName d)) (.type "bool") = some (isBool d) := by
  cases d with
  | none => exact kit_ty (show kitB "NoneType" "bool" = some false by decide +kernel)
  | bool b => exact kit_ty (show kitB "bool" "bool" = some true by decide +kernel)
  | int i => exact kit_ty (show kitB "int" "bool" = some false by decide +kernel)
  | str x => exact kit_ty (show kitB "str" "bool" = some false by decide +kernel)
  | list xs => exact kit_ty (show kitB "list" "bool" = some false by decide +kernel)
  | tuple xs => exact kit_ty (show kitB "tuple" "bool" = some false by decide +kernel)
  | dict kvs => exact kit_ty (show kitB "dict" "bool" = some false by decide +kernel)
mutual
theorem Dp.same (e : Same H H') : ∀ {v : V} {d : PyData}, Dp K H v d → Dp K H' v d
  | _, _, .non => .non
  | _, _, .bl b => .bl b
  | _, _, .int i => .int i
  | _, _, .str x => .str x
  | _, _, .lst hs ha => .lst (e.seq hs) (DpAll.same e ha)
  | _, _, .tup hs ha => .tup (same_t e hs) (DpAll.same e ha)
theorem DpAll.same (e : Same H H') : ∀ {vs : List V} {ds : List PyData}, DpAll K H vs ds → DpAll K H' vs ds
  | _, _, .nil => .nil
  | _, _, .cons h t => .cons (Dp.same e h) (DpAll.same e t)
end
theorem DpX.same (e : Same H H') (h : DpX K H v d) : DpX K H' v d := h.elim (fun z => .inl (Dp.same e z)) fun ⟨a, e1, e2, e3⟩ => .inr ⟨a, e1, e _ _ e2, e3⟩
theorem DpAll.len : ∀ {vs : List V} {ds : List PyData}, DpAll K H vs ds → vs.length = ds.length
  | _, _, .nil => rfl
  | _, _, .cons _ t => by rw [List.length_cons, List.length_cons, DpAll.len t]
theorem DpAll.get : ∀ {vs : List V} {ds : List PyData} {i : Nat} {x : V}, DpAll K H vs ds → vs[i]? = some x → ∃ d, ds[i]? = some d ∧ Dp K H x d
  | _, _, _, _, .nil, e => by simp at e
  | _, _, 0, _, .cons h _, e => by
    simp at e
    subst e
    exact ⟨_, rfl, h⟩
  | _, _, i + 1, x, .cons _ t, e => by
    obtain ⟨d, h1, h2⟩ := DpAll.get (i := i) (x := x) t (by simpa using e)
    exact ⟨d, by simpa using h1, h2⟩
/-- a tuple's items -/
theorem Dp.tup_inv {ds : List PyData} (h : Dp K H v (.tuple ds)) : ∃ a xs, v = .ref a ∧ SqT K H a xs ∧ DpAll K H xs ds := by
  cases h with
  | tup hs ha => exact ⟨_, _, rfl, hs, ha⟩
theorem Dp.pair_inv {e c : Int} (h : Dp K H v (.tuple [.int e, .int c])) : ∃ a, v = .ref a ∧ SqT K H a [.int e, .int c] := by
  cases h with
  | tup hs ha =>
    cases ha with
    | cons h1 t =>
      cases t with
      | cons h2 t2 =>
        cases t2
        cases h1
        cases h2
        exact ⟨_, rfl, hs⟩
theorem Dp.int_inv {i : Int} (h : Dp K H v (.int i)) : v = .int i := by
  cases h
  rfl
end
theorem isTup_inv {d : PyData} (h : isTup d = true) : ∃ ds, d = .tuple ds := by
  cases d <;> first | exact ⟨_, rfl⟩ | cases h
theorem isWhole_inv {d : PyData} (h : isWhole d = true) : ∃ i, d = .int i := by
  cases d <;> first | exact ⟨_, rfl⟩ | cases h
theorem isTerm_inv {p : Int} {d : PyData} (h : isTerm p d = true) : ∃ e c, d = .tuple [.int e, .int c] ∧ 1 ≤ c ∧ c < p := by
  unfold isTerm at h
  split at h
  · rename_i e c
    rw [Bool.and_eq_true, decide_eq_true_eq, decide_eq_true_eq] at h
    exact ⟨e, c, rfl, h.1, h.2⟩
  · cases h
def sp_is_whole (K : PySem.W.Frag) : Sp := fun vs H Q _ => ∃ (v : V) (d : PyData), vs = [v] ∧ DpX K H v d ∧ Q (.bl (isWhole d)) H
def sp_is_term (K : PySem.W.Frag) : Sp := fun vs H Q _ => ∃ (p : Int) (v : V) (d : PyData), vs = [.int p, v] ∧ Dp K H v d ∧ Q (.bl (isTerm p d)) H
def sp_is_polynomial (K : PySem.W.Frag) : Sp := fun vs H Q _ => ∃ (p : Int) (v : V) (d : PyData), vs = [.int p, v] ∧ DpX K H v d ∧ (∀ ds, d = .tuple ds → ds.length ≤ 1000000) ∧ ∀ H', Same H H' → Q (.bl (isPoly p d)) H'
def sp_is_effect (K : PySem.W.Frag) : Sp := fun vs H Q _ => ∃ (p : Int) (v : V) (d : PyData), vs = [.int p, v] ∧ DpX K H v d ∧ (∀ ds es, d = .tuple ds → PyData.tuple es ∈ ds → es.length ≤ 1000000) ∧ ∀ H', Same H H' → Q (.bl (isEff p d)) H'
/-- [f(x) for x in a tuple], f a truth value -/
theorem lcBool {K : PySem.W.Frag} {a : Addr} {xs : List V} {ds : List PyData} {σ : L2.St} {H : Hp} {vs : List Nat} {n i : Nat} {te : TE} {Q : VK} (f : PyData → Bool) (hv : σ[n]? = some (some (.ref a))) (hs : SqT K H a xs) (hP : DpAll K H xs ds) (hl : ds.length ≤ 1000000)
    (hw : ∀ x, wipe ((wipe σ vs).set i (some x)) vs = wipe σ vs)
    (he : ∀ x d H2, Same H H2 → Dp K H2 x d → ∀ R : VK, R (.bl (f d)) H2 → te ((wipe σ vs).set i (some x)) H2 R)
    (k : ∀ D H2, Same H H2 → H2 D = some (.lst ((ds.map f).map V.bl)) → Q (.ref D) H2) : tLc (iTup K (tVar n)) (gName i) tYes te vs σ H Q := by
  refine ⟨_, hv, a, rfl, ⟨_, hs⟩, fun D nD => lc_tup (K := K) (a := a) (xs := xs) (fun m H2 => Same H H2 ∧ H2 D = some (.lst (((ds.take m).map f).map V.bl))) ⟨same_new nD, upd_same⟩ (fun m H2 _ g => same_t g.1 hs) ?_ ?_⟩
  · rintro m x H2 hm ⟨s2, h2⟩
    obtain ⟨d, hd, hx⟩ := DpAll.get hP hm
    refine ⟨hw _, ?_⟩
    dsimp only [tYes]
    rw [if_pos rfl]
    have hm2 : m < ds.length := (List.getElem?_eq_some_iff.mp hd).1
    refine he x d H2 s2 (Dp.same s2 hx) _ ⟨_, h2, sl_lt (by rw [List.length_map, List.length_map, List.length_take]; omega), same_mut s2 nD, ?_⟩
    rw [upd_same, take_snoc hd, List.map_append, List.map_append]
    rfl
  · rintro H2 ⟨s2, h2⟩
    rw [DpAll.len hP, List.take_length] at h2
    exact k D H2 s2 h2
theorem cut1 (xs : List V) : cutV xs (some 1) none = xs.drop 1 := by
  unfold cutV
  rw [show HT.sIx xs.length 0 (some 1) = min 1 xs.length from HT.sIx_nat xs.length 0 1, HT.sIx_none]
  cases xs with
  | nil => rfl
  | cons x r =>
    rw [show min 1 (x :: r).length = 1 by
      rw [List.length_cons]
      omega]
    show (List.take ((x :: r).length - 1) r) = r
    rw [List.length_cons, Nat.add_sub_cancel]
    exact List.take_length
/-- the pairs of neighbours, compared -/
def ups : List PyData → List Bool
  | x :: y :: r => decide (expo x < expo y) :: ups (y :: r)
  | _ => []
theorem ups_len : ∀ ds : List PyData, (ups ds).length = ds.length - 1
  | [] => rfl
  | [_] => rfl
  | x :: y :: r => by
    show (ups (y :: r)).length + 1 = _
    rw [ups_len (y :: r)]
    show r.length + 1 - 1 + 1 = r.length + 1 + 1 - 1
    omega
theorem ups_get : ∀ (ds : List PyData) (i : Nat) (x y : PyData), ds[i]? = some x → ds[i + 1]? = some y → (ups ds)[i]? = some (decide (expo x < expo y))
  | [], _, _, _, h, _ => by simp at h
  | [_], 0, _, _, _, h => by simp at h
  | [_], i + 1, _, _, h, _ => by simp at h
  | a :: b :: r, 0, x, y, h, h2 => by
    have e1 : a = x := Option.some.inj h
    have e2 : b = y := Option.some.inj h2
    rw [← e1, ← e2]
    rfl
  | a :: b :: r, i + 1, x, y, h, h2 => ups_get (b :: r) i x y h h2
theorem ups_all : ∀ ds : List PyData, (ups ds).all id = ascD ds
  | [] => rfl
  | [_] => rfl
  | x :: y :: r => by
    show (decide (expo x < expo y) && (ups (y :: r)).all id) = _
    rw [ups_all (y :: r)]
    rfl
/-! ### what canonical polynomials and effects are told to be -/
theorem term_pr {p : Int} {t : Int × Int} (h : 0 < t.2 ∧ t.2 < p) : isTerm p (pr t) = true := by
  show (decide (1 ≤ t.2) && decide (t.2 < p)) = true
  rw [decide_eq_true (by omega), decide_eq_true h.2]
  rfl
theorem asc_prs : ∀ {g : Pol}, (g.Pairwise fun x y => x.1 < y.1) → ascD (g.map pr) = true
  | [], _ => rfl
  | [_], _ => rfl
  | t :: u :: r, h => by
    have a := List.pairwise_cons.mp h
    show (decide (t.1 < u.1) && ascD ((u :: r).map pr)) = true
    rw [decide_eq_true (a.1 u List.mem_cons_self), asc_prs a.2]
    rfl
theorem nf_poly {p : Int} {g : Pol} {F : Int → Int} (h : Nf p g F) : isPoly p (pd g) = true := by
  show ((g.map pr).all (isTerm p) && ascD (g.map pr)) = true
  rw [asc_prs h.asc, Bool.and_true, List.all_eq_true]
  intro x hx
  obtain ⟨t, ht, rfl⟩ := List.mem_map.mp hx
  exact term_pr (h.rng t ht)
theorem nf_eff {p : Int} {g : Pol} {F : Int → Int} (h : Nf p g F) (n : Int) : isEff p (ed g n) = true := by
  show (isPoly p (pd g) && true) = true
  rw [nf_poly h]
  rfl
/-- [t[0] < f[0] for t, f in zip(x, x[1:])] -/
theorem lcZip {K : PySem.W.Frag} {a b : Addr} {xs : List V} {ds : List PyData} {σ : L2.St} {H : Hp} {vs : List Nat} {i j : Nat} {te : TE} {Q : VK} (hs : SqT K H a xs) (hb : SqT K H b (xs.drop 1)) (hP : DpAll K H xs ds) (hl : ds.length ≤ 1000000)
    (hw : ∀ x y, wipe (((wipe σ vs).set i (some x)).set j (some y)) vs = wipe σ vs)
    (he : ∀ x y d d' H2, Same H H2 → d ∈ ds → d' ∈ ds → Dp K H2 x d → Dp K H2 y d' → ∀ R : VK, R (.bl (decide (expo d < expo d'))) H2 → te (((wipe σ vs).set i (some x)).set j (some y)) H2 R)
    (k : ∀ D H2, Same H H2 → H2 D = some (.lst ((ups ds).map V.bl)) → Q (.ref D) H2) : tLc (fun _ H R => R (RZ.ItzT K a b) H) (gTup K 2 (gCons (gName i) (gCons (gName j) gNil))) tYes te vs σ H Q := by
  intro D nD
  have hlen : xs.length = ds.length := DpAll.len hP
  refine ⟨fun m r H2 => m + r = ds.length - 1 ∧ Same H H2 ∧ H2 D = some (.lst (((ups ds).take m).map V.bl)), ⟨ds.length - 1, by omega, same_new nD, upd_same⟩, fun m r H2 hW => ?_⟩
  obtain ⟨em, s2, h2⟩ := hW
  have hA : SqT K H2 a xs := same_t s2 hs
  have hB : SqT K H2 b (xs.drop 1) := same_t s2 hb
  by_cases hm : m < ds.length - 1
  · have m1 : m < xs.length := by omega
    have m2 : m + 1 < xs.length := by omega
    have g1 : xs[m]? = some xs[m] := List.getElem?_eq_getElem m1
    have g2 : (xs.drop 1)[m]? = some xs[m + 1] := by
      rw [List.getElem?_drop, Nat.add_comm 1 m, List.getElem?_eq_getElem m2]
    obtain ⟨d, hd, hx⟩ := DpAll.get hP g1
    obtain ⟨d', hd', hy⟩ := DpAll.get hP (List.getElem?_eq_getElem m2)
    have gu := ups_get ds m d d' hd hd'
    refine .inr ⟨⟨xs, xs.drop 1, _, _, hA, hB, g1, g2⟩, fun H' => Same H H' ∧ H' D = some (.lst (((ups ds).take (m + 1)).map V.bl)), fun H' hN => ⟨r - 1, by omega, by omega, hN.1, hN.2⟩, fun v H' hy' => ?_⟩
    obtain ⟨T, x1, x2, rfl, nT, rfl, f1, f2⟩ := hy'
    have ex1 : x1 = xs[m] := Option.some.inj ((f1 _ hA).symm.trans g1)
    have ex2 : x2 = xs[m + 1] := Option.some.inj ((f2 _ hB).symm.trans g2)
    subst ex1
    subst ex2
    have sT : Same H2 (upd H2 T (.tup [xs[m], xs[m + 1]])) := same_new nT
    have s3 := s2.trans sT
    refine ⟨T, _, rfl, SqT.of upd_same, rfl, _, _, rfl, _, _, rfl, rfl, hw _ _, ?_⟩
    dsimp only [tYes]
    rw [if_pos rfl]
    refine he _ _ d d' _ s3 (List.mem_of_getElem? hd) (List.mem_of_getElem? hd') (Dp.same s3 hx) (Dp.same s3 hy) _ ⟨_, sT _ _ h2, sl_lt ?_, same_mut s3 nD, ?_⟩
    · rw [List.length_map, List.length_take]
      omega
    · rw [upd_same, take_snoc gu, List.map_append]
      rfl
  · refine .inl ⟨⟨xs, xs.drop 1, hA, hB, .inr ?_⟩, ?_⟩
    · rw [List.length_drop]
      omega
    · have e : m = ds.length - 1 := by omega
      rw [e, ← ups_len, List.take_length] at h2
      exact k D H2 s2 h2
theorem two {α : Type} {xs : List α} (h : xs.length = 2) : ∃ a b, xs = [a, b] := by
  match xs, h with
  | [a, b], _ => exact ⟨a, b, rfl⟩
end DR
namespace DR
open PySem PySem.Spec PyProof.Rows L2
/-! ### repr of any data, and of an empty dict -/
section
variable {X : Cx}
theorem call_reprX (hg : X.A.guards = some []) (hu : X.A.units + 100 < cLine) : CallR X (.builtin "repr") (fun xs H Q => ∃ (x : V) (d : PyData), xs = [x] ∧ DpX X.K H x d ∧ d.showable = true ∧ (d.hasDict = true → d = .dict []) ∧ d.depth ≤ 64 ∧ d.shown.length ≤ sizeLine ∧ Q (.str d.shown) H) := by
  intro pins s σ H xs us Q I r h
  obtain ⟨x, d, rfl, hd, hs, hn, hz, hl, q⟩ := h
  obtain ⟨u, rfl, rx⟩ := vals1 r
  rcases hd with hd | ⟨a, rfl, ha, rfl⟩
  · cases hd with
    | non =>
      obtain rfl : u = Value.none := rx
      exact PySem.P.repr_of_none ⟨.str _, H, I.tok _, ⟨_, rfl⟩, q⟩
    | bl b =>
      obtain rfl : u = Value.bool b := rx
      refine PySem.P.repr_of_bool ⟨.str _, H, I.tok _, ⟨_, rfl⟩, ?_⟩
      cases b <;> exact q
    | int i =>
      obtain ⟨t, rfl⟩ := rx
      exact PySem.P.repr_of_int (of_decide_eq_true hs) ⟨.str _, H, I.tok _, ⟨_, rfl⟩, q⟩
    | str y =>
      obtain ⟨t, rfl⟩ := rx
      exact PySem.P.repr_of_str ⟨.str _, H, I.tok _, ⟨_, rfl⟩, q⟩ hl
    | @lst a xs ds h1 h2 =>
      obtain rfl : u = Value.ref a := rx
      obtain ⟨as, rd⟩ := Dp.reads I _ _ _ (Dp.lst h1 h2) rfl
      refine repr_of_reads' rd hs (fun z => absurd (hn z) (by intro e; cases e)) hg (by omega) (fun _ _ e => e) (fun h' t tk hk => ?_) hl
      exact ⟨.str _, H, I.kept hk, ⟨t, rfl⟩, q⟩
    | @tup a xs ds h1 h2 =>
      obtain rfl : u = Value.ref a := rx
      obtain ⟨as, rd⟩ := Dp.reads I _ _ _ (Dp.tup h1 h2) rfl
      refine repr_of_reads' rd hs (fun z => absurd (hn z) (by intro e; cases e)) hg (by omega) (fun _ _ e => e) (fun h' t tk hk => ?_) hl
      exact ⟨.str _, H, I.kept hk, ⟨t, rfl⟩, q⟩
  · obtain rfl : u = Value.ref a := rx
    obtain ⟨z, lo, vs, rel, o, es, ep, e1, ex, e2, _, e4, _⟩ := dk_rd I.hok (Rd.of ha)
    cases rel
    have e5 : es.toList = [] := by
      cases h : es.toList with
      | nil => rfl
      | cons y ys =>
        rw [h] at e4
        cases e4
    have rd : Reads s.heap (.ref a) (.dict []) (a :: [] ++ []) := .dict (kvs := []) e1 ex.1 e2 (by rw [e5]; exact .nil) (by rw [e5]; exact .nil)
    refine repr_of_reads' rd hs (fun _ hm => ?_) hg (by omega) (fun _ _ e => e) (fun h' t tk hk => ?_) hl
    · have e6 : sysModules = a := by simpa using hm
      rw [e6] at lo
      simp at lo
    · exact ⟨.str _, H, I.kept hk, ⟨t, rfl⟩, q⟩
end
end DR
/-! ### t[::-1] of a tuple -/
namespace DRv
open PySem PySem.Spec PyProof.Rows L2 HT
section
variable {prog : Program} {w : World} {A : Around} {E : Value → Shared → Prop} {s : Shared}
theorem fm_congr {α β : Type} {f g : α → Option β} : ∀ {l : List α}, (∀ x ∈ l, f x = g x) → l.filterMap f = l.filterMap g
  | [], _ => rfl
  | x :: l, h => by
    rw [List.filterMap_cons, List.filterMap_cons, h x List.mem_cons_self, fm_congr fun y hy => h y (List.mem_cons_of_mem _ hy)]
theorem applied_back {sl : Addr} {vl vu vs : Value} {n : Nat} {Q : Int × Int × Nat → Shared → Prop} (hs : s.heap.IsSliceOf sl vl vu vs) (pl : IsPart vl none) (pu : IsPart vu none) (ps : IsPart vs (some (-1)))
    (h : Q ((n : Int) - 1, -1, n) s) : wpAny (model prog w) A (Builtin.Slice.sliceApplied (.ref sl) (pure (n : Int))) Q E s := by
  obtain ⟨os, hos, _, hds⟩ := hs
  unfold Builtin.Slice.sliceApplied
  unfold Builtin.Slice.sliceFields
  refine wpAny_bind (wpAny_bind (wpAny_field hos hds (x := vl) rfl (wpAny_bind (wpAny_field hos hds (x := vu) rfl (wpAny_bind (wpAny_field hos hds (x := vs) rfl (wpAny_pure ?_)))))))
  refine wpAny_bind (slicePart_ ps ?_)
  show wpAny _ _ (if ((-1 : Int) == 0) = true then _ else _) _ _ s
  rw [if_neg (by decide)]
  have both := fun R h => slicePart_ (prog := prog) (w := w) (A := A) (E := E) (s := s) (Q := R) pu h
  refine wpAny_bind (slicePart_ pl (wpAny_bind (both _ (wpAny_bind (wpAny_pure ?_)))))
  show wpAny _ _ (match Builtin.Slice.sliceAdjust none none (-1) (n : Int) with | (lo, hi) => pure (lo, (-1 : Int), Builtin.Slice.slicePlaces lo hi (-1))) _ _ s
  have e1 : Builtin.Slice.sliceAdjust none none (-1) (n : Int) = ((n : Int) - 1, -1) := by simp [Builtin.Slice.sliceAdjust]
  have e2 : Builtin.Slice.slicePlaces ((n : Int) - 1) (-1) (-1) = n := by
    simp [Builtin.Slice.slicePlaces]
    try omega
  rw [e1]
  show wpAny _ _ (pure ((n : Int) - 1, (-1 : Int), Builtin.Slice.slicePlaces ((n : Int) - 1) (-1) (-1))) _ _ s
  rw [e2]
  exact wpAny_pure h
theorem pick_back (xs : Array Value) : ((List.range xs.size).filterMap fun (m : Nat) => xs[(((xs.size : Int) - 1) + (m : Int) * -1).toNat]?).toArray = xs.toList.reverse.toArray := by
  congr 1
  have h : ∀ l : List Value, ((List.range l.length).filterMap fun (m : Nat) => l[(((l.length : Int) - 1) + (m : Int) * -1).toNat]?) = l.reverse := by
    intro l
    have e : (List.range l.length).filterMap (fun (m : Nat) => l[(((l.length : Int) - 1) + (m : Int) * -1).toNat]?) = (List.range l.length).filterMap (fun (m : Nat) => l.reverse[m]?) := by
      refine fm_congr fun m hm => ?_
      have hm := List.mem_range.mp hm
      rw [List.getElem?_reverse hm]
      congr 1
      omega
    rw [e]
    have r : ∀ k : List Value, (List.range k.length).filterMap (fun (m : Nat) => k[m]?) = k := by
      intro k
      induction k with
      | nil => rfl
      | cons a k ih =>
        rw [List.length_cons, List.range_succ_eq_map, List.filterMap_cons]
        simp only [List.getElem?_cons_zero, List.filterMap_map]
        congr 1
    have := r l.reverse
    rw [List.length_reverse] at this
    exact this
  have := h xs.toList
  rw [Array.length_toList] at this
  rw [← this]
  refine fm_congr fun m _ => ?_
  rw [Array.getElem?_toList]
theorem tuple_back {t sl : Addr} {items : Array Value} {vl vu vs : Value} {Q : Value → Shared → Prop} (ht : IsTup s.heap t items) (hs : s.heap.IsSliceOf sl vl vu vs) (pl : IsPart vl none) (pu : IsPart vu none) (ps : IsPart vs (some (-1)))
    (h : Q (.ref s.heap.objs.size) { s with heap := s.heap.push { cls := .type "tuple", data := .seq items.toList.reverse.toArray } }) (hsz : items.size ≤ sizeLine) : wpAny (model prog w) A (getItem (.ref t) (.ref sl)) Q E s := by
  have fits : sizeOk (.seq items.toList.reverse.toArray) := by
    show items.toList.reverse.toArray.size ≤ sizeLine
    rw [List.size_toArray, List.length_reverse, Array.length_toList]
    exact hsz
  have ty : s.TypeIs (.ref sl) "slice" := hs.elim fun os z => ⟨os, z.1, z.2.1⟩
  unfold getItem
  try with_reducible refine wpAny_holding ?_
  first | refine wpAny_bind (wpAny_pure ?_) | skip
  refine wpAny_bind (wpAny_sequenceKey ht.typeIs (by decide) ?_)
  refine wpAny_bind (wpAny_callSpecial?_slot (name := Str.ofString "__getitem__") ht.typeIs slot_tuple_getitem (wpAny_call_entry slot_tuple_getitem ht.typeIs entry_tuple_getitem ?_ (args_tuple_getitem _ _)))
  show wpAny _ _ (Builtin.Tuple.tupleItemsOf (.ref t) >>= _) _ _ s
  refine wpAny_bind (tupleItemsOf_ ht (wpAny_bind (wpAny_typeOf ty ?_)))
  rw [if_pos (by decide)]
  refine wpAny_bind (applied_back hs pl pu ps ?_)
  have no : ¬ ((((items.size : Int) - 1) == 0 && (-1 : Int) == 1 && items.size == items.size) = true) := by
    intro q
    have two := (Bool.and_eq_true _ _ ▸ (Bool.and_eq_true _ _ ▸ q).1).2
    exact absurd two (by decide)
  show wpAny _ _ (if (((items.size : Int) - 1) == 0 && (-1 : Int) == 1 && items.size == items.size) = true then _ else _) _ _ s
  rw [if_neg no, pick_back]
  first
    | exact wpAny_bind (m := Builtin.Tuple.tupleExact _) (wpAny_newObj_type (wpAny_pure ⟨_, rfl, wpAny_pure h⟩) fits)
    | exact wpAny_bind (m := Builtin.Tuple.tupleExact _) (wpAny_newObj_type (wpAny_bind (wpAny_pure (wpAny_pure ⟨_, rfl, wpAny_pure h⟩))) fits)
    | exact wpAny_bind (wpAny_bind (m := Builtin.Tuple.tupleExact _) (wpAny_newObj_type (wpAny_pure (wpAny_pure ⟨_, rfl, wpAny_pure h⟩)) fits))
    | exact wpAny_bind (wpAny_bind (m := Builtin.Tuple.tupleExact _) (wpAny_newObj_type (wpAny_pure ⟨_, rfl, wpAny_pure h⟩) fits))
end
section
variable {X : Cx}
def tRevT (K : PySem.W.Frag) (te : TE) : TE := fun σ H Q => te σ H fun x H1 => ∃ a xs, x = .ref a ∧ SqT K H1 a xs ∧ ∀ p, H1 p = none → Q (.ref p) (upd H1 p (.tup xs.reverse))
theorem pe_revT {e : Expr} {te : TE} {k : Nat} {p1 p2 p3 pos : Pos} (he : PE X e te) : PE X (.Subscript e (.Slice none none (some (.UnaryOp .USub (.Constant (.int 1) k p1) p2)) p3) pos) (tRevT X.K te) := by
  refine ⟨fun pins s σ H Q I h => Subscript_ (thn (he.run pins s σ H _ I h) fun v s1 ⟨x, H1, I1, r1, q1⟩ => ?_)⟩
  obtain ⟨a, xs, rfl, hx, q⟩ := q1
  cases r1
  have step : PO X (some (.UnaryOp .USub (.Constant (.int 1) k p1) p2)) (tPart (tUn (rU fun i => .int (-i)) (tC (.int 1)))) := po_some (pe_un un_neg pe_int)
  refine wpAny_Slice (thn (po_none.run pins s1 σ H1 (fun o G => o = none ∧ G = H1) I1 ⟨rfl, rfl⟩) fun vl s2 ⟨l, G2, I2, pl, el, eG⟩ => ?_)
  subst el eG
  refine thn (po_none.run pins s2 σ G2 (fun o G => o = none ∧ G = G2) I2 ⟨rfl, rfl⟩) fun vu s3 ⟨u, G3, I3, pu, eu, eG⟩ => ?_
  subst eu eG
  refine thn (step.run pins s3 σ G3 (fun o G => o = some (-1) ∧ G = G3) I3 ⟨1, rfl, -1, rfl, rfl, rfl⟩) fun vs s4 ⟨o, G4, I4, ps, eo, eG⟩ => ?_
  subst eo eG
  have I5 : Inv X pins σ G4 { s4 with heap := s4.heap.push { cls := .type "slice", data := .fields #[vl, vu, vs] } } := I4.kept (t' := s4.toks) fun b ob q => Heap.get?_push_of_some _ q
  obtain ⟨its, r, ht, hz⟩ := I5.tuple hx
  have len := r.length
  show wpAny (model X.prog X.w) X.A (subscriptTail e (.Slice none none (some (.UnaryOp .USub (.Constant (.int 1) k p1) p2)) p3) (.ref a) (.ref s4.heap.objs.size)) (EP X pins σ Q) X.xe { s4 with heap := s4.heap.push { cls := .type "slice", data := .fields #[vl, vu, vs] } }
  refine tail_any (ops := [.ref a, .ref s4.heap.objs.size]) ht.typeIs slot_tuple_getitem.lookup ?_ (by with_unfolding_all rfl)
  refine tuple_back ht (Heap.IsSliceOf.new _ vl vu vs) pl pu ps ?_ (by rw [List.size_toArray]; omega)
  refine ⟨.ref _, _, I5.laid (t' := s4.toks) (o := .tup xs.reverse) (fun b ob q => Heap.get?_push_of_some _ q) (Nat.le_refl _) ?_, rfl, q _ (I5.hok.fresh (Nat.le_refl _))⟩
  exact ⟨by rw [List.length_reverse]; exact hz, its.reverse, r.reverse, _, Heap.get?_push_size _ rfl, rfl, 0, rfl⟩
end
end DRv
namespace DR
open PySem PySem.Spec PyProof.Rows L2
/-! ### values that may be shown and told of -/
def tupLen : PyData → Nat
  | .tuple es => es.length
  | _ => 0
/-- data that is shown in n signs at most, k deep at most -/
structure Fits (n k : Nat) (d : PyData) : Prop where
  sh : d.showable = true
  nd : d.hasDict = false
  dp : d.depth ≤ k
  ln : d.shown.length ≤ n
theorem Fits.up {n k n' k' : Nat} {d : PyData} (h : Fits n k d) (a : n ≤ n') (b : k ≤ k') : Fits n' k' d := ⟨h.sh, h.nd, Nat.le_trans h.dp b, Nat.le_trans h.ln a⟩
theorem fits_int {i : Int} (h : i.natAbs < 10 ^ 100) : Fits 101 0 (.int i) := ⟨(int_shows h).1, rfl, Nat.le_refl _, (int_shows h).2⟩
theorem fits_pd {g : Pol} (h : Sm g) : Fits (211 * g.length + 3) 2 (pd g) := ⟨(pd_shows h).1, (pd_shows h).2.1, (pd_shows h).2.2.1, (pd_shows h).2.2.2⟩
theorem fits_list {g : Pol} (h : Sm g) : Fits (211 * g.length + 3) 2 (.list (g.map pr)) := by
  obtain ⟨a1, a2, a3, a4, a5⟩ := prs_shows g h.abs
  refine ⟨a1, a2, ?_, ?_⟩
  · show PyData.depthAll (g.map pr) + 1 ≤ 2
    omega
  · show (listText (PyData.shownAll (g.map pr))).length ≤ _
    have := listText_len_le (PyData.shownAll (g.map pr))
    rw [a5] at this
    omega
theorem fits_1 {n k : Nat} {d : PyData} (h : Fits n k d) : Fits (n + 5) (k + 1) (.tuple [d]) := by
  obtain ⟨a, b, c, e⟩ := h
  refine ⟨?_, ?_, ?_, ?_⟩
  · show (d.showable && true) = true
    rw [a]
    rfl
  · show (d.hasDict || false) = false
    rw [b]
    rfl
  · show max d.depth 0 + 1 ≤ k + 1
    omega
  · show (tupleText [d.shown]).length ≤ _
    have := tupleText_len_le [d.shown]
    simp only [List.map_cons, List.map_nil, List.sum_cons, List.sum_nil, List.length_cons, List.length_nil] at this
    omega
theorem fits_2 {n k n' k' : Nat} {d d' : PyData} (h : Fits n k d) (h' : Fits n' k' d') : Fits (n + n' + 7) (max k k' + 1) (.tuple [d, d']) := by
  obtain ⟨a, b, c, e⟩ := h
  obtain ⟨a', b', c', e'⟩ := h'
  refine ⟨?_, ?_, ?_, ?_⟩
  · show (d.showable && (d'.showable && true)) = true
    rw [a, a']
    rfl
  · show (d.hasDict || (d'.hasDict || false)) = false
    rw [b, b']
    rfl
  · show max d.depth (max d'.depth 0) + 1 ≤ max k k' + 1
    omega
  · show (tupleText [d.shown, d'.shown]).length ≤ _
    have := tupleText_len_le [d.shown, d'.shown]
    simp only [List.map_cons, List.map_nil, List.sum_cons, List.sum_nil, List.length_cons, List.length_nil] at this
    omega
theorem fits_l2 {n k n' k' : Nat} {d d' : PyData} (h : Fits n k d) (h' : Fits n' k' d') : Fits (n + n' + 7) (max k k' + 1) (.list [d, d']) := by
  obtain ⟨a, b, c, e⟩ := h
  obtain ⟨a', b', c', e'⟩ := h'
  refine ⟨?_, ?_, ?_, ?_⟩
  · show (d.showable && (d'.showable && true)) = true
    rw [a, a']
    rfl
  · show (d.hasDict || (d'.hasDict || false)) = false
    rw [b, b']
    rfl
  · show max d.depth (max d'.depth 0) + 1 ≤ max k k' + 1
    omega
  · show (listText [d.shown, d'.shown]).length ≤ _
    have := listText_len_le [d.shown, d'.shown]
    simp only [List.map_cons, List.map_nil, List.sum_cons, List.sum_nil, List.length_cons, List.length_nil] at this
    omega
theorem fits_3 {n k n' k' n2 k2 : Nat} {d d' d2 : PyData} (h : Fits n k d) (h' : Fits n' k' d') (h2 : Fits n2 k2 d2) : Fits (n + n' + n2 + 9) (max k (max k' k2) + 1) (.tuple [d, d', d2]) := by
  obtain ⟨a, b, c, e⟩ := h
  obtain ⟨a', b', c', e'⟩ := h'
  obtain ⟨a2, b2, c2, e2⟩ := h2
  refine ⟨?_, ?_, ?_, ?_⟩
  · show (d.showable && (d'.showable && (d2.showable && true))) = true
    rw [a, a', a2]
    rfl
  · show (d.hasDict || (d'.hasDict || (d2.hasDict || false))) = false
    rw [b, b', b2]
    rfl
  · show max d.depth (max d'.depth (max d2.depth 0)) + 1 ≤ _
    omega
  · show (tupleText [d.shown, d'.shown, d2.shown]).length ≤ _
    have := tupleText_len_le [d.shown, d'.shown, d2.shown]
    simp only [List.map_cons, List.map_nil, List.sum_cons, List.sum_nil, List.length_cons, List.length_nil] at this
    omega
/-- what repr and is_effect ask -/
structure Shw (d : PyData) : Prop where
  sh : d.showable = true
  nd : d.hasDict = true → d = .dict []
  dp : d.depth ≤ 64
  ln : d.shown.length ≤ sizeLine
  tl : tupLen d ≤ 1000000
  it : ∀ ds, d = .tuple ds → ∀ x ∈ ds, tupLen x ≤ 1000000
theorem Fits.shw {n k : Nat} {d : PyData} (h : Fits n k d) (hn : n ≤ 1000000) (hk : k ≤ 64) (tl : tupLen d ≤ 1000000) (it : ∀ ds, d = .tuple ds → ∀ x ∈ ds, tupLen x ≤ 1000000) : Shw d :=
  ⟨h.sh, (fun z => by rw [h.nd] at z; cases z), Nat.le_trans h.dp hk, sl_of (Nat.le_trans h.ln hn), tl, it⟩
theorem it_2 {a b : PyData} (h1 : tupLen a ≤ 1000000) (h2 : tupLen b ≤ 1000000) : ∀ ds, PyData.tuple [a, b] = .tuple ds → ∀ x ∈ ds, tupLen x ≤ 1000000 := fun ds e x hx => by
  cases PyData.tuple.inj e
  rcases List.mem_cons.mp hx with z | hx
  · rw [z]; exact h1
  rcases List.mem_cons.mp hx with z | hx
  · rw [z]; exact h2
  · exact absurd hx List.not_mem_nil
def Good (K : PySem.W.Frag) (H : Hp) (v : V) : Prop := ∃ d, DpX K H v d ∧ Shw d
section
variable {K : PySem.W.Frag} {H H' : Hp} {v : V} {l : List V}
theorem Good.same (e : Same H H') (h : Good K H v) : Good K H' v := h.elim fun d z => ⟨d, DpX.same e z.1, z.2⟩
theorem good_nil : ∀ w ∈ ([] : List V), Good K H w := fun w h => absurd h List.not_mem_nil
theorem good_cons (h : Good K H v) (t : ∀ w ∈ l, Good K H w) : ∀ w ∈ v :: l, Good K H w := fun w hw => (List.mem_cons.mp hw).elim (fun e => e ▸ h) (t w)
theorem goods_same (e : Same H H') (h : ∀ w ∈ l, Good K H w) : ∀ w ∈ l, Good K H' w := fun w hw => Good.same e (h w hw)
theorem kp_l {p c : Addr} {n : Nat} {a : Addr} {xs : List V} (pen : PenAt H p c n) (k : Kp p H H') (h : SqL K H a xs) : SqL K H' a xs := by
  obtain ⟨kvs, hp⟩ := pen.dict
  rcases h with (h | ⟨o, h⟩) | h
  · exact .inl (.inl (k _ _ (ne_of h hp (by intro z; cases z)) h))
  · exact .inl (.inr ⟨o, k _ _ (ne_of h hp (by intro z; cases z)) h⟩)
  · exact .inr h
mutual
theorem Dp.kp {p c : Addr} {n : Nat} (pen : PenAt H p c n) (k : Kp p H H') : ∀ {v : V} {d : PyData}, Dp K H v d → Dp K H' v d
  | _, _, .non => .non
  | _, _, .bl b => .bl b
  | _, _, .int i => .int i
  | _, _, .str x => .str x
  | _, _, .lst hs ha => .lst (kp_l pen k hs) (DpAll.kp pen k ha)
  | _, _, .tup hs ha => .tup (tp_t (pen.tp k) hs) (DpAll.kp pen k ha)
theorem DpAll.kp {p c : Addr} {n : Nat} (pen : PenAt H p c n) (k : Kp p H H') : ∀ {vs : List V} {ds : List PyData}, DpAll K H vs ds → DpAll K H' vs ds
  | _, _, .nil => .nil
  | _, _, .cons h t => .cons (Dp.kp pen k h) (DpAll.kp pen k t)
end
theorem Good.kp {p c : Addr} {n : Nat} (pen : PenAt H p c n) (k : Kp p H H') (h : Good K H v) : Good K H' v := by
  obtain ⟨d, hd | ⟨a, e1, e2, e3⟩, s⟩ := h
  · exact ⟨d, .inl (Dp.kp pen k hd), s⟩
  · obtain ⟨ns, u, l, hp, _⟩ := pen.ex
    refine ⟨d, .inr ⟨a, e1, k _ _ (ne_of e2 hp (fun z => ?_)) e2, e3⟩, s⟩
    injection z with z
    cases z
end
def sp__law_odd_value (K : PySem.W.Frag) : Sp := fun vs H Q _ => ∃ (p c : Addr) (n : Nat), vs = [.ref p] ∧ PenAt H p c n ∧ n < 2 ^ 38 ∧ ∀ v H', Kp p H H' → PenAt H' p c (n + 1) → Good K H' v → Q v H'
/-- order of any effect -/
def ordV (p : Int) (f : Pol) (m : Int) : V := if m = 0 then .int (if f = [] then 1 else p) else .non
def sp_orderG (K : PySem.W.Frag) : Sp := fun vs H Q _ => ∃ (p : Int) (v : V) (f : Pol) (m : Int), vs = [.int p, v] ∧ TEff K H v f m ∧ Q (ordV p f m) H
/-- is_effect as the law tells it, term by term -/
def chk (p : Int) : Option Int → List PyData → Bool
  | _, [] => true
  | last, d :: r => isTerm p d && ((match last with | none => true | some l => decide (l < expo d)) && chk p (some (expo d)) r)
theorem chk_some (p : Int) : ∀ (r : List PyData) (d : PyData), chk p (some (expo d)) r = (r.all (isTerm p) && ascD (d :: r))
  | [], d => rfl
  | x :: r, d => by
    show (isTerm p x && (decide (expo d < expo x) && chk p (some (expo x)) r)) = ((isTerm p x && r.all (isTerm p)) && (decide (expo d < expo x) && ascD (x :: r)))
    rw [chk_some p r x]
    cases isTerm p x <;> cases decide (expo d < expo x) <;> cases r.all (isTerm p) <;> cases ascD (x :: r) <;> rfl
theorem chk_none (p : Int) (ds : List PyData) : chk p none ds = isPoly p (.tuple ds) := by
  cases ds with
  | nil => rfl
  | cons d r =>
    show (isTerm p d && (true && chk p (some (expo d)) r)) = ((isTerm p d && r.all (isTerm p)) && ascD (d :: r))
    rw [chk_some]
    cases isTerm p d <;> cases r.all (isTerm p) <;> cases ascD (d :: r) <;> rfl
end DR
namespace DR
open PySem PySem.Spec PyProof.Rows L2
/-! ### values laid out by hand -/
def shwB (d : PyData) : Bool := d.showable && (!d.hasDict || (match d with | .dict [] => true | _ => false)) && decide (d.depth ≤ 64) && decide (d.shown.length ≤ 1000000) && decide (tupLen d ≤ 1000000) && (match d with | .tuple ds => ds.all (fun x => decide (tupLen x ≤ 1000000)) | _ => true)
theorem shw_of {d : PyData} (h : shwB d = true) : Shw d := by
  simp only [shwB, Bool.and_eq_true] at h
  obtain ⟨⟨⟨⟨⟨h1, h2⟩, h3⟩, h4⟩, h5⟩, h6⟩ := h
  refine ⟨h1, fun z => ?_, of_decide_eq_true h3, sl_of (of_decide_eq_true h4), of_decide_eq_true h5, ?_⟩
  · rw [z] at h2
    cases d with
    | dict l =>
      cases l with
      | nil => rfl
      | cons _ _ => cases h2
    | _ => cases h2
  · rintro ds rfl x hx
    exact of_decide_eq_true (List.all_eq_true.mp h6 x hx)
structure Nice (n k : Nat) (d : PyData) : Prop where
  f : Fits n k d
  tl : tupLen d ≤ 1000000
  it : ∀ ds, d = .tuple ds → ∀ x ∈ ds, tupLen x ≤ 1000000
theorem Nice.up {n k n' k' : Nat} {d : PyData} (h : Nice n k d) (a : n ≤ n') (b : k ≤ k') : Nice n' k' d := ⟨h.f.up a b, h.tl, h.it⟩
theorem nice_int {i : Int} (h : i.natAbs < 10 ^ 100) : Nice 101 0 (.int i) := ⟨fits_int h, Nat.zero_le _, fun _ e => by cases e⟩
theorem nice_of {n k : Nat} {d : PyData} (a : d.showable = true) (b : d.hasDict = false) (c : d.depth ≤ k) (e : d.shown.length ≤ n) (t : tupLen d ≤ 1000000) (i : ∀ ds, d = .tuple ds → ∀ x ∈ ds, tupLen x ≤ 1000000) : Nice n k d := ⟨⟨a, b, c, e⟩, t, i⟩
theorem nice_pd {g : Pol} (h : Sm g) (hl : g.length ≤ 101) : Nice 22000 2 (pd g) := ⟨(fits_pd h).up (by omega) (Nat.le_refl _), by
  show (g.map pr).length ≤ _
  rw [List.length_map]
  omega, fun ds e x hx => by
  cases PyData.tuple.inj e
  obtain ⟨t, _, rfl⟩ := List.mem_map.mp hx
  show 2 ≤ 1000000
  decide⟩
theorem nice_lpd {g : Pol} (h : Sm g) (hl : g.length ≤ 101) : Nice 22000 2 (.list (g.map pr)) := ⟨(fits_list h).up (by omega) (Nat.le_refl _), Nat.zero_le _, fun ds e => by cases e⟩
theorem nice_1 {n k : Nat} {d : PyData} (h : Nice n k d) : Nice (n + 5) (k + 1) (.tuple [d]) := ⟨fits_1 h.f, (show 1 ≤ 1000000 by decide), fun ds e x hx => by
  cases PyData.tuple.inj e
  rcases List.mem_cons.mp hx with z | hx
  · rw [z]; exact h.tl
  · exact absurd hx List.not_mem_nil⟩
theorem nice_2 {n k n' k' : Nat} {d d' : PyData} (h : Nice n k d) (h' : Nice n' k' d') : Nice (n + n' + 7) (max k k' + 1) (.tuple [d, d']) := ⟨fits_2 h.f h'.f, (show 2 ≤ 1000000 by decide), it_2 h.tl h'.tl⟩
theorem nice_l2 {n k n' k' : Nat} {d d' : PyData} (h : Nice n k d) (h' : Nice n' k' d') : Nice (n + n' + 7) (max k k' + 1) (.list [d, d']) := ⟨fits_l2 h.f h'.f, Nat.zero_le _, fun ds e => by cases e⟩
theorem nice_3 {n k n' k' n2 k2 : Nat} {d d' d2 : PyData} (h : Nice n k d) (h' : Nice n' k' d') (h2 : Nice n2 k2 d2) : Nice (n + n' + n2 + 9) (max k (max k' k2) + 1) (.tuple [d, d', d2]) := ⟨fits_3 h.f h'.f h2.f, (show 3 ≤ 1000000 by decide), fun ds e x hx => by
  cases PyData.tuple.inj e
  rcases List.mem_cons.mp hx with z | hx
  · rw [z]; exact h.tl
  rcases List.mem_cons.mp hx with z | hx
  · rw [z]; exact h'.tl
  rcases List.mem_cons.mp hx with z | hx
  · rw [z]; exact h2.tl
  · exact absurd hx List.not_mem_nil⟩
def FA (K : PySem.W.Frag) (H : Hp) (v : V) : Prop := ∃ d, Dp K H v d ∧ Nice 25000 3 d
def FB (K : PySem.W.Frag) (H : Hp) (v : V) : Prop := ∃ d, Dp K H v d ∧ Nice 100000 4 d
section
variable {K : PySem.W.Frag} {H : Hp} {b : Addr}
theorem dn_tup (nb : H b = none) (xs : List V) (ds : List PyData) (hd : DpAll K (upd H b (.tup xs)) xs ds) : Dp K (upd H b (.tup xs)) (.ref b) (.tuple ds) := .tup (SqT.of upd_same) hd
theorem dn_lst (nb : H b = none) (xs : List V) (ds : List PyData) (hd : DpAll K (upd H b (.lst xs)) xs ds) : Dp K (upd H b (.lst xs)) (.ref b) (.list ds) := .lst (SqL.of upd_same) hd
theorem dn_dct (nb : H b = none) : DpX K (upd H b (.dK [])) (.ref b) (.dict []) := .inr ⟨b, rfl, upd_same, rfl⟩
theorem same_top (nb : H b = none) (o : HO) : Same (upd H b o) (upd H b o) := Same.refl _

variable {H' : Hp} {v w x : V} {Q : VK}
theorem FA.same (e : Same H H') (h : FA K H v) : FA K H' v := h.elim fun d z => ⟨d, Dp.same e z.1, z.2⟩
theorem FB.same (e : Same H H') (h : FB K H v) : FB K H' v := h.elim fun d z => ⟨d, Dp.same e z.1, z.2⟩
theorem FA.kp {p c : Addr} {n : Nat} (pen : PenAt H p c n) (k : Kp p H H') (h : FA K H v) : FA K H' v := h.elim fun d z => ⟨d, Dp.kp pen k z.1, z.2⟩
theorem FB.kp {p c : Addr} {n : Nat} (pen : PenAt H p c n) (k : Kp p H H') (h : FB K H v) : FB K H' v := h.elim fun d z => ⟨d, Dp.kp pen k z.1, z.2⟩
theorem FA.fb (h : FA K H v) : FB K H v := h.elim fun d z => ⟨d, z.1, z.2.up (by decide) (by decide)⟩
theorem FB.good (h : FB K H v) : Good K H v := h.elim fun d z => ⟨d, .inl z.1, z.2.f.shw (by decide) (by decide) z.2.tl z.2.it⟩
theorem fa_int {i : Int} (h : i.natAbs < 10 ^ 100) : FA K H (.int i) := ⟨_, .int i, (nice_int h).up (by decide) (by decide)⟩
theorem fb_t1 (nb : H b = none) (h : FA K H v) : FB K (upd H b (.tup [v])) (.ref b) := h.elim fun d z => ⟨_, dn_tup nb _ _ (.cons (Dp.same (same_new nb) z.1) .nil), (nice_1 z.2).up (by decide) (by decide)⟩
theorem fb_t2 (nb : H b = none) (h : FA K H v) (h' : FA K H w) : FB K (upd H b (.tup [v, w])) (.ref b) := h.elim fun d z => h'.elim fun d' z' => ⟨_, dn_tup nb _ _ (.cons (Dp.same (same_new nb) z.1) (.cons (Dp.same (same_new nb) z'.1) .nil)), (nice_2 z.2 z'.2).up (by decide) (by decide)⟩
theorem fb_l2 (nb : H b = none) (h : FA K H v) (h' : FA K H w) : FB K (upd H b (.lst [v, w])) (.ref b) := h.elim fun d z => h'.elim fun d' z' => ⟨_, dn_lst nb _ _ (.cons (Dp.same (same_new nb) z.1) (.cons (Dp.same (same_new nb) z'.1) .nil)), (nice_l2 z.2 z'.2).up (by decide) (by decide)⟩
theorem fb_t3 (nb : H b = none) (h : FA K H v) (h' : FA K H w) (h2 : FA K H x) : FB K (upd H b (.tup [v, w, x])) (.ref b) := h.elim fun d z => h'.elim fun d' z' => h2.elim fun d2 z2 => ⟨_, dn_tup nb _ _ (.cons (Dp.same (same_new nb) z.1) (.cons (Dp.same (same_new nb) z'.1) (.cons (Dp.same (same_new nb) z2.1) .nil))), (nice_3 z.2 z'.2 z2.2).up (by decide) (by decide)⟩
theorem DpAll.append : ∀ {xs ys : List V} {ds es : List PyData}, DpAll K H xs ds → DpAll K H ys es → DpAll K H (xs ++ ys) (ds ++ es)
  | _, _, _, _, .nil, t => t
  | _, _, _, _, .cons h r, t => .cons h (DpAll.append r t)
theorem DpAll.rev : ∀ {xs : List V} {ds : List PyData}, DpAll K H xs ds → DpAll K H xs.reverse ds.reverse
  | _, _, .nil => .nil
  | _, _, .cons h r => by
    rw [List.reverse_cons, List.reverse_cons]
    exact DpAll.append (DpAll.rev r) (.cons h .nil)
theorem Sm.rev {g : Pol} (h : Sm g) : Sm g.reverse := ⟨by rw [List.length_reverse]; exact h.len, fun t ht => h.abs t (List.mem_reverse.mp ht)⟩
theorem Sm.snoc {g : Pol} (h : Sm g) (hl : g.length ≤ 100) : Sm (g ++ [(0, 1)]) := ⟨by rw [List.length_append]; show g.length + 1 ≤ _; omega, fun t ht => by
  rcases List.mem_append.mp ht with z | z
  · exact h.abs t z
  · cases List.mem_singleton.mp z
    decide⟩
/-- a heap without the lists that another one holds -/
def er (H0 H : Hp) : Hp := fun b => match H0 b with | some (.lst _) => none | _ => H b
theorem er_at {H0 : Hp} {o : HO} (h : er H0 H b = some o) : H b = some o ∧ ∀ xs, H0 b ≠ some (.lst xs) := by
  unfold er at h
  split at h
  · cases h
  · next h2 => exact ⟨h, fun xs e => h2 xs e⟩
theorem er_of {H0 : Hp} {o : HO} (h : H b = some o) (n : ∀ xs, H0 b ≠ some (.lst xs)) : er H0 H b = some o := by
  unfold er
  split
  · next xs e => exact absurd e (n xs)
  · exact h
theorem er_sub (H0 H : Hp) : Same (er H0 H) H := fun b o e => (er_at e).1
theorem er_same {H0 : Hp} (s : Same H H') : Same (er H0 H) (er H0 H') := fun b o e => er_of (s _ _ (er_at e).1) (er_at e).2
theorem er_kp {H0 : Hp} {p : Addr} (k : Kp p H H') : Kp p (er H0 H) (er H0 H') := fun b o nb e => er_of (k _ _ nb (er_at e).1) (er_at e).2
/-- lists stay -/
def Al (H0 H : Hp) : Prop := ∀ b xs, H0 b = some (.lst xs) → H b ≠ none
theorem Al.refl (H : Hp) : Al H H := fun b xs e z => by rw [e] at z; cases z
theorem Al.same {H0 : Hp} (h : Al H0 H) (s : Same H H') : Al H0 H' := fun b xs e z => by
  cases hb : H b with
  | none => exact h b xs e hb
  | some o => rw [s _ _ hb] at z; cases z
theorem Al.kp {H0 : Hp} {p c : Addr} {n : Nat} (h : Al H0 H) (k : Kp p H H') (pen : PenAt H' p c n) : Al H0 H' := fun b xs e z => by
  by_cases hp : b = p
  · subst hp
    obtain ⟨kvs, d⟩ := pen.dict
    rw [z] at d
    cases d
  · cases hb : H b with
    | none => exact h b xs e hb
    | some o => rw [k _ _ hp hb] at z; cases z
theorem er_new {H0 : Hp} {o : HO} (s : Al H0 H) (nb : H b = none) : Same (upd (er H0 H) b o) (er H0 (upd H b o)) := fun a u e => by
  by_cases h : a = b
  · subst h
    rw [upd_same] at e
    exact er_of (by rw [upd_same]; exact e) fun xs z => s _ _ z nb
  · rw [upd_ne h] at e
    refine er_of ?_ (er_at e).2
    rw [upd_ne h]
    exact (er_at e).1
theorem er_none {H0 : Hp} (nb : H b = none) : er H0 H b = none := by
  unfold er
  split
  · rfl
  · exact nb
theorem er_tp (H : Hp) : Tp H (er H H) := ⟨fun b xs e => er_of e fun ys z => (by rw [e] at z; cases z), fun b o u e => er_of e fun ys z => (by rw [e] at z; cases z)⟩
theorem cat_pol {a c : Addr} {xs : List V} {e : V} (ha : SqT K H a xs) (hb : SqT K H b [e]) (hl : xs.length ≤ 1000) (k0 : xs = [] → Q (.ref b) H) (k : ∀ p, H p = none → Q (.ref p) (upd H p (.tup (xs ++ [e])))) : rCatA K (.ref a) (.ref b) H Q :=
  ⟨a, b, xs, _, rfl, rfl, ha, hb, sl_of (show xs.length + 1 ≤ 1000000 by omega), k0, fun _ z => (by cases z), fun _ _ p np => k p np⟩
theorem tp_kp {p : Addr} {kvs : List (Key × V)} (hp : H p = some (.dK kvs)) (k : Kp p H H') : Tp H H' := ⟨fun b xs e => k _ _ (ne_of e hp (by intro z; cases z)) e, fun b o u e => k _ _ (ne_of e hp (by intro z; cases z)) e⟩
theorem kpd_l {p : Addr} {kvs : List (Key × V)} {a : Addr} {xs : List V} (hp : H p = some (.dK kvs)) (k : Kp p H H') (h : SqL K H a xs) : SqL K H' a xs := by
  rcases h with (h | ⟨o, h⟩) | h
  · exact .inl (.inl (k _ _ (ne_of h hp (by intro z; cases z)) h))
  · exact .inl (.inr ⟨o, k _ _ (ne_of h hp (by intro z; cases z)) h⟩)
  · exact .inr h
mutual
theorem Dp.kpd {p : Addr} {kvs : List (Key × V)} (hp : H p = some (.dK kvs)) (k : Kp p H H') : ∀ {v : V} {d : PyData}, Dp K H v d → Dp K H' v d
  | _, _, .non => .non
  | _, _, .bl b => .bl b
  | _, _, .int i => .int i
  | _, _, .str x => .str x
  | _, _, .lst hs ha => .lst (kpd_l hp k hs) (DpAll.kpd hp k ha)
  | _, _, .tup hs ha => .tup (tp_t (tp_kp hp k) hs) (DpAll.kpd hp k ha)
theorem DpAll.kpd {p : Addr} {kvs : List (Key × V)} (hp : H p = some (.dK kvs)) (k : Kp p H H') : ∀ {vs : List V} {ds : List PyData}, DpAll K H vs ds → DpAll K H' vs ds
  | _, _, .nil => .nil
  | _, _, .cons h t => .cons (Dp.kpd hp k h) (DpAll.kpd hp k t)
end
theorem FA.kpd {H0 : Hp} {p c c' : Addr} {n n' : Nat} (pen0 : PenAt H0 p c n) (pen : PenAt H p c' n') (k : Kp p H H') (h : FA K (er H0 H) v) : FA K (er H0 H') v := h.elim fun d z => by
  obtain ⟨kvs, hp⟩ := pen.dict
  obtain ⟨kvs0, hp0⟩ := pen0.dict
  exact ⟨d, Dp.kpd (er_of hp fun xs e => by rw [hp0] at e; cases e) (er_kp k) z.1, z.2⟩
theorem FB.kpd {H0 : Hp} {p c c' : Addr} {n n' : Nat} (pen0 : PenAt H0 p c n) (pen : PenAt H p c' n') (k : Kp p H H') (h : FB K (er H0 H) v) : FB K (er H0 H') v := h.elim fun d z => by
  obtain ⟨kvs, hp⟩ := pen.dict
  obtain ⟨kvs0, hp0⟩ := pen0.dict
  exact ⟨d, Dp.kpd (er_of hp fun xs e => by rw [hp0] at e; cases e) (er_kp k) z.1, z.2⟩
theorem all_nil {P : V → Prop} : ∀ w ∈ ([] : List V), P w := fun w h => absurd h List.not_mem_nil
theorem all_cons {P : V → Prop} {l : List V} (h : P v) (t : ∀ w ∈ l, P w) : ∀ w ∈ v :: l, P w := fun w hw => (List.mem_cons.mp hw).elim (fun e => e ▸ h) (t w)
theorem all_app {P : V → Prop} {l m : List V} (h : ∀ w ∈ l, P w) (t : ∀ w ∈ m, P w) : ∀ w ∈ l ++ m, P w := fun w hw => (List.mem_append.mp hw).elim (h w) (t w)
theorem cat_polG {H0 : Hp} {a : Addr} {xs : List V} {e : V} (ha : SqT K H a xs) (hb : SqT K H b [e]) (hl : xs.length ≤ 1000) (f0 : FA K (er H0 H) (.ref b)) (f : ∀ p, H p = none → FA K (er H0 (upd H p (.tup (xs ++ [e])))) (.ref p)) (k : ∀ v H', Same H H' → FA K (er H0 H') v → Q v H') : rCatA K (.ref a) (.ref b) H Q :=
  cat_pol (c := b) ha hb hl (fun _ => k _ _ (Same.refl H) f0) fun p np => k _ _ (same_new np) (f p np)
theorem lcTerm {H0 : Hp} {a : Addr} {xs : List V} {σ : L2.St} {vs : List Nat} {n i : Nat} {te : TE} (m : Int) (hm : m.natAbs < 10 ^ 100) (hv : σ[n]? = some (some (.ref a))) (hs : H a = some (.lst xs)) (hl : xs.length ≤ 1000) (al : Al H0 H) (hw : ∀ x, wipe ((wipe σ vs).set i (some x)) vs = wipe σ vs)
    (he : ∀ x H2 (R : VK), (∀ b, H2 b = none → R (.ref b) (upd H2 b (.tup [x, .int m]))) → te ((wipe σ vs).set i (some x)) H2 R) (hF : ∀ x ∈ xs, FA K (er H0 H) x)
    (k : ∀ D ys H2, Same H H2 → H2 D = some (.lst ys) → ys.length = xs.length → (∀ y ∈ ys, FB K (er H0 H2) y) → Q (.ref D) H2) : tLc (iList K (tVar n)) (gName i) tYes te vs σ H Q := by
  refine ⟨_, hv, a, rfl, ⟨_, SqL.of hs⟩, fun D nD => lc_list (K := K) (a := a) (xs := xs) (fun m' H2 => ∃ acc, H2 D = some (.lst acc) ∧ acc.length = m' ∧ Same H H2 ∧ ∀ y ∈ acc, ∃ b x, y = V.ref b ∧ H2 b = some (.tup [x, .int m]) ∧ H b = none ∧ x ∈ xs) ⟨[], upd_same, rfl, same_new nD, fun y h => absurd h List.not_mem_nil⟩ (fun m' H2 _ ⟨acc, h1, h2, s2, h3⟩ => SqL.of (s2 _ _ hs)) ?_ ?_⟩
  · rintro i' x H2 hi ⟨acc, hD, hlen, s2, hA⟩
    refine ⟨hw _, ?_⟩
    dsimp only [tYes]
    rw [if_pos rfl]
    have hi' : i' < xs.length := (List.getElem?_eq_some_iff.mp hi).1
    refine he x H2 _ fun b nb => ?_
    have nbD : D ≠ b := fun z => by rw [← z, hD] at nb; cases nb
    refine ⟨acc, by rw [upd_ne nbD]; exact hD, sl_lt (by omega), acc ++ [.ref b], upd_same, by rw [List.length_append, hlen]; rfl, same_mut (s2.trans (same_new nb)) nD, fun y hy => ?_⟩
    rcases List.mem_append.mp hy with h | h
    · obtain ⟨b', x', e, h1, h2, h3⟩ := hA y h
      refine ⟨b', x', e, ?_, h2, h3⟩
      rw [upd_ne (ne_of h1 hD (by intro z; cases z)), upd_ne (fun z => by rw [z, nb] at h1; cases h1)]
      exact h1
    · have e : y = .ref b := by simpa using h
      refine ⟨b, x, e, ?_, ?_, List.mem_of_getElem? hi⟩
      · rw [upd_ne nbD.symm, upd_same]
      · cases hb : H b with
        | none => rfl
        | some o => rw [s2 _ _ hb] at nb; cases nb
  · rintro H2 ⟨acc, hD, hlen, s2, hA⟩
    refine k D acc H2 s2 hD hlen fun y hy => ?_
    obtain ⟨b, x, rfl, h1, h2, h3⟩ := hA y hy
    obtain ⟨d, hd, hn⟩ := hF x h3
    exact ⟨_, .tup (SqT.of (er_of h1 fun ys z => al _ _ z h2)) (.cons (Dp.same (er_same s2) hd) (.cons (.int m) .nil)), (nice_2 hn (nice_int hm)).up (by decide) (by decide)⟩
end
def sp__law_changed9 (K : PySem.W.Frag) : Sp := fun vs H Q _ => ∃ (p c : Addr) (q : Int) (e : V) (g : Pol) (m : Int) (n : Nat), vs = [.ref p, .int q, e] ∧ 2 ≤ q ∧ q ≤ 97 ∧ TEff K H e g m ∧ Sm g ∧ g.length ≤ 100 ∧ m.natAbs < 10 ^ 90 ∧ PenAt H p c n ∧ n < 2 ^ 38 ∧ ∀ v H', Kp p H H' → PenAt H' p c (n + 2) → Good K (er H H') v → Q v H'
theorem op_mulOk {X : Cx} : OpR X (binaryOp .Mult) (rI IntMulOk fun i j => .int (i * j)) := opI fun _ _ _ _ _ _ _ hc q => mul_int q hc
def er1 (D : Addr) (H : Hp) : Hp := fun b => if b = D then none else H b
theorem er1_at {D b : Addr} {H : Hp} {o : HO} (h : er1 D H b = some o) : b ≠ D ∧ H b = some o := by
  unfold er1 at h
  split at h
  · cases h
  · next z => exact ⟨z, h⟩
theorem er1_of {D b : Addr} {H : Hp} {o : HO} (n : b ≠ D) (h : H b = some o) : er1 D H b = some o := by
  unfold er1
  rw [if_neg n]
  exact h
theorem er1_pen {D p c : Addr} {H : Hp} {n : Nat} (hp : p ≠ D) (hc : c ≠ D) (pen : PenAt H p c n) : PenAt (er1 D H) p c n := by
  obtain ⟨ns, u, l, h1, h2, h3, h4⟩ := pen.ex
  exact ⟨⟨ns, u, l, er1_of hp h1, er1_of hc h2, h3, h4⟩⟩
theorem lcPenG {K : PySem.W.Frag} {p c : Addr} {σ : L2.St} {H : Hp} {vs : List Nat} {i : Nat} {te : TE} {Q : VK} (n : Nat) {z : Int} (hz : z = (n : Int)) (b cost : Nat) (hn : n ≤ 1000)
    (hw : ∀ x, wipe ((wipe σ vs).set i (some x)) vs = wipe σ vs) (pen : PenAt H p c b)
    (he : ∀ (m : Nat), m < n → ∀ H2, Kp p H H2 → PenAt H2 p c (b + cost * m) → ∀ S : VK, (∀ v H3, Kp p H2 H3 → PenAt H3 p c (b + cost * (m + 1)) → Good K (er H2 H3) v → S v H3) → te ((wipe σ vs).set i (some (.int (0 + (m : Int))))) H2 S)
    (k : ∀ D xs H2, xs.length = n → H2 D = some (.lst xs) → (∀ v ∈ xs, Good K H2 v) → Kp p H H2 → PenAt H2 p c (b + cost * n) → Q (.ref D) H2) : tLc (iRng1 (tCons (tC (.int z)) tNil)) (gName i) tYes te vs σ H Q := by
  subst hz
  refine ⟨(n : Int), rfl, by omega, by omega, fun D nD => lc_range (lo := 0) (n := ((n : Int)).toNat) (fun m H2 => ∃ xs, H2 D = some (.lst xs) ∧ xs.length = m ∧ (∀ v ∈ xs, Good K (er1 D H2) v) ∧ Kp p H H2 ∧ PenAt H2 p c (b + cost * m)) ⟨[], upd_same, rfl, fun v h => absurd h List.not_mem_nil, Same.kp (same_new nD), pen.same (same_new nD)⟩ ?_ ?_⟩
  · rintro m H2 hm ⟨xs, hD, hl, hR, kp, pen2⟩
    refine ⟨hw _, ?_⟩
    dsimp only [tYes]
    rw [if_pos rfl]
    refine he m (by omega) H2 kp pen2 _ fun v H3 k3 pen3 hv => ?_
    have npD := pen.np nD
    have ncD := pen.nc nD
    have hD3 : H3 D = some (.lst xs) := k3 _ _ npD hD
    refine ⟨xs, hD3, sl_lt (by omega), xs ++ [v], upd_same, by rw [List.length_append, hl]; rfl, fun w hw' => ?_, fun x o nx ex => ?_, pen3.upd npD ncD⟩
    · rcases List.mem_append.mp hw' with h | h
      · refine Good.kp (er1_pen npD.symm ncD.symm pen2) (fun x o nx ex => ?_) (hR w h)
        obtain ⟨h1, h2⟩ := er1_at ex
        exact er1_of h1 (by rw [upd_ne h1]; exact k3 _ _ nx h2)
      · have e : w = v := by simpa using h
        rw [e]
        refine Good.same (fun x o ex => ?_) hv
        obtain ⟨h1, h2⟩ := er_at ex
        have h3 : x ≠ D := fun z => h2 xs (z ▸ hD)
        exact er1_of h3 (by rw [upd_ne h3]; exact h1)
    · rw [upd_ne (ne_of_none ex nD)]
      exact k3 _ _ nx (kp _ _ nx ex)
  · rintro H2 ⟨xs, hD, hl, hR, kp, pen2⟩
    exact k D xs H2 (by rw [hl]; omega) hD (fun v hv => Good.same (fun x o ex => (er1_at ex).2) (hR v hv)) kp (pen2.mono (by rw [Int.toNat_natCast]; exact Nat.le_refl _))
end DR
namespace DR
open PySem PySem.Spec PyProof.Rows L2
/-! ### a call by keywords alone -/
section
variable {X : Cx} {CX : CXT} {k : Nat} {f : Addr} {fd : FuncData} {ps ks : List Str} {sp : Sp} {E : XK} {x : Str} {p pos : Pos} {kws : List Keyword} {tk : TA} {g : List Value → List Value → List Value} {gV : List V → List V → List V}
/-- the keywords of a call, none of them `**` -/
structure KwsAre (pos : Pos) (kws : List Keyword) (env : Env) (ks : List Str) : Prop where
  named : (backToKw pos (keywordEach kws env)).all (·.1.isSome) = true
  names : (backToKw pos (keywordEach kws env)).filterMap (·.1) = ks
  plain : ((backTo pos (starEach [] env)).any (·.1) || (backToKw pos (keywordEach kws env)).any (·.1.isNone)) = false
theorem pe_callK0 (F : FnOk X.prog X.w X.K X.mg X.base CX k f fd ps sp) (hr : Room k X.A) (hg : Gl X x) (hm : X.mg x = some (.ref f)) (hk : PySem.W.keepIn X.K (.ref f) = true) (hb : KBinds X.K fd ps ks g gV) (hx : Passes CX X E) (hkw : PK X kws tk)
    (said : KwsAre pos kws X.env ks := by exact ⟨rfl, rfl, rfl⟩) (hdb : (x == ("__debug__" : Str)) = false := by decide) :
    PE X (.Call (.Name x p) [] kws pos) (tCallK sp gV E tNil tk) := by
  refine ⟨fun pins now σ H Q I told => wpAny_Call_Name_kw (ld_glob I hg hm (PySem.W.callWith_KW0 (h₀ := X.base) I.ok.mod.kin hk said.named ?_ said.plain) hdb)⟩
  refine thn (hkw.run pos pins now σ H _ I told) fun ws s2 ⟨zs, H2, I2, rz, q2⟩ => ⟨I2.kIn, ?_⟩
  rw [said.names]
  exact run_fnk (us := []) (vs := []) F hr hb hx I2 .nil rz q2
end
/-- two keywords, in the other order -/
def sw2 {α : Type} : List α → List α → List α
  | [], [a, b] => [b, a]
  | _, _ => []
theorem sw2_rel {vs : List V} {us : List Value} {zs : List V} {ws : List Value} (h : Vals vs us) (h2 : Vals zs ws) : Vals (sw2 vs zs) (sw2 us ws) := by
  cases h with
  | nil =>
    cases h2 with
    | nil => exact .nil
    | cons a t =>
      cases t with
      | nil => exact .nil
      | cons b t2 =>
        cases t2 with
        | nil => exact .cons b (.cons a .nil)
        | cons _ _ => exact .nil
  | cons _ _ =>
    cases h2 with
    | nil => exact .nil
    | cons a t => exact .nil
structure CalW (P : Program) (w : World) (K : PySem.W.Frag) (mg : Str → Option Value) (base : Heap) (k : Nat) (x : Str) (k1 k2 : Str) (sp : Sp) : Prop where
  ex : ∃ (f : Addr) (fd : FuncData), FnOk P w K mg base CX0 k f fd [k2, k1] sp ∧ mg x = some (.ref f) ∧ PySem.W.keepIn K (.ref f) = true ∧ KBinds K fd [k2, k1] [k1, k2] sw2 sw2
theorem calw_of {P : Program} {w : World} {K : PySem.W.Frag} {mg : Str → Option Value} {base : Heap} {k : Nat} {x k1 k2 : Str} {st : Stmt} {sp : Sp} (D : Df K mg x st)
    (b : ∀ (kV doc pm : Value) (an : Option Addr) (cdv ct : Value) (u v : Value), bindArgs (PySem.W.fnOf x x (defArgs st) (defBody st) (defScope st) .none kV doc pm an cdv ct) ⟨[], [(k1, u), (k2, v)]⟩ = pure [(k2, v), (k1, u)])
    (ok : ∀ f fd, Fun K x x st f fd → FnOk P w K mg base CX0 k f fd [k2, k1] sp) : CalW P w K mg base k x k1 k2 sp := by
  obtain ⟨f, fd, F, hm, kp⟩ := D.ex
  refine ⟨f, fd, ok f fd F, hm, kp, ⟨fun s us ws _ hl => ?_, sw2_rel⟩⟩
  obtain ⟨_, _, kV, doc, pm, an, cdv, ct, _, rfl, _⟩ := F.ex
  match us, ws, hl with
  | [], [u, v], _ => exact .of_eq (b kV doc pm an cdv ct u v)
theorem pe_cw {X : Cx} {k j : Nat} {x k1 k2 : Str} {sp : Sp} {p pos : Pos} {kws : List Keyword} {tk : TA} (c : CalW X.prog X.w X.K X.mg X.base k x k1 k2 sp) (hr : Room j X.A) (hk : k ≤ j) (hg : Gl X x) (hkw : PK X kws tk)
    (said : KwsAre pos kws X.env [k1, k2] := by exact ⟨rfl, rfl, rfl⟩) (hdb : (x == ("__debug__" : Str)) = false := by decide) :
    PE X (.Call (.Name x p) [] kws pos) (tCallK sp sw2 E0 tNil tk) := by
  obtain ⟨f, fd, F, hm, kp, b⟩ := c.ex
  exact pe_callK0 F (hr.mono hk) hg hm kp b pass0 hkw said hdb
/-! ### least and greatest -/
def loL (x : Int) (r : List Int) : Int := r.foldr min x
def hiL (x : Int) (r : List Int) : Int := r.foldr max x
theorem loL_le (x : Int) : ∀ (r : List Int), loL x r ≤ x ∧ ∀ y ∈ r, loL x r ≤ y
  | [] => ⟨Int.le_refl _, fun y h => absurd h List.not_mem_nil⟩
  | z :: r => by
    obtain ⟨a, b⟩ := loL_le x r
    have e : loL x (z :: r) = min z (loL x r) := rfl
    refine ⟨by omega, fun y hy => ?_⟩
    rcases List.mem_cons.mp hy with q | q
    · rw [q]; omega
    · have := b y q; omega
theorem loL_mem (x : Int) : ∀ (r : List Int), loL x r ∈ x :: r
  | [] => List.mem_cons_self
  | z :: r => by
    have h := loL_mem x r
    have e : loL x (z :: r) = min z (loL x r) := rfl
    by_cases q : z ≤ loL x r
    · rw [e, Int.min_eq_left q]
      exact List.mem_cons_of_mem _ List.mem_cons_self
    · rw [e, Int.min_eq_right (by omega)]
      rcases List.mem_cons.mp h with w | w
      · rw [w]; exact List.mem_cons_self
      · exact List.mem_cons_of_mem _ (List.mem_cons_of_mem _ w)
theorem loL_eq {x m : Int} {r : List Int} (h : m ∈ x :: r) (l : ∀ y ∈ x :: r, m ≤ y) : m = loL x r := by
  have h1 := l _ (loL_mem x r)
  have h2 : loL x r ≤ m := by
    rcases List.mem_cons.mp h with q | q
    · rw [q]; exact (loL_le x r).1
    · exact (loL_le x r).2 m q
  omega
theorem hiL_ge (x : Int) : ∀ (r : List Int), x ≤ hiL x r ∧ ∀ y ∈ r, y ≤ hiL x r
  | [] => ⟨Int.le_refl _, fun y h => absurd h List.not_mem_nil⟩
  | z :: r => by
    obtain ⟨a, b⟩ := hiL_ge x r
    have e : hiL x (z :: r) = max z (hiL x r) := rfl
    refine ⟨by omega, fun y hy => ?_⟩
    rcases List.mem_cons.mp hy with q | q
    · rw [q]; omega
    · have := b y q; omega
theorem hiL_mem (x : Int) : ∀ (r : List Int), hiL x r ∈ x :: r
  | [] => List.mem_cons_self
  | z :: r => by
    have h := hiL_mem x r
    have e : hiL x (z :: r) = max z (hiL x r) := rfl
    by_cases q : hiL x r ≤ z
    · rw [e, Int.max_eq_left q]
      exact List.mem_cons_of_mem _ List.mem_cons_self
    · rw [e, Int.max_eq_right (by omega)]
      rcases List.mem_cons.mp h with w | w
      · rw [w]; exact List.mem_cons_self
      · exact List.mem_cons_of_mem _ (List.mem_cons_of_mem _ w)
theorem hiL_eq {x m : Int} {r : List Int} (h : m ∈ x :: r) (l : ∀ y ∈ x :: r, y ≤ m) : m = hiL x r := by
  have h1 := l _ (hiL_mem x r)
  have h2 : m ≤ hiL x r := by
    rcases List.mem_cons.mp h with q | q
    · rw [q]; exact (hiL_ge x r).1
    · exact (hiL_ge x r).2 m q
  omega
/-! ### the length of an effect -/
def places (f : Pol) (m : Int) : List Int := m :: f.map (·.1)
def lo (f : Pol) (m : Int) : Int := loL 0 (places f m)
def hi (f : Pol) (m : Int) : Int := hiL 0 (places f m)
def ft (p v : Int) : Int := if p - v < v then p - v else v
def absI (m : Int) : Int := if m < 0 then -m else m
def turnsOf (p : Int) (f : Pol) : Int := (f.map fun t => ft p t.2).sum
def lenE (p : Int) (f : Pol) (m : Int) : Int := 2 * (hi f m - lo f m) - absI m + turnsOf p f
def sp_fewest_turns : Sp := fun vs H Q _ => ∃ (p v : Int), vs = [.int p, .int v] ∧ Q (.int (ft p v)) H
def sp_cost : Sp := fun vs H Q _ => ∃ (p v : Int), vs = [.int p, .int v] ∧ 0 < v ∧ v < p ∧ Q (.int (ft p v)) H
def sp_reach (K : PySem.W.Frag) : Sp := fun vs H Q _ => ∃ (v : V) (f : Pol) (m : Int), vs = [v] ∧ TEff K H v f m ∧ f.length ≤ 100000 ∧ ∀ a H', Same H H' → SqT K H' a [.int (lo f m), .int (hi f m)] → Q (.ref a) H'
def sp_length (K : PySem.W.Frag) : Sp := fun vs H Q _ => ∃ (p : Int) (v : V) (f : Pol) (m : Int), vs = [.int p, v] ∧ TEff K H v f m ∧ f.length ≤ 100000 ∧ ∀ H', Same H H' → Q (.int (lenE p f m)) H'
def sp_size (K : PySem.W.Frag) : Sp := fun vs H Q _ => ∃ (p : Int) (v : V) (f : Pol) (m : Int), vs = [.int p, v] ∧ TEff K H v f m ∧ f.length ≤ 100000 ∧ (∀ t ∈ f, 0 < t.2 ∧ t.2 < p) ∧ ∀ H', Same H H' → Q (.int (lenE p f m)) H'
/-- [an int for x, y in a tuple of pairs] -/
theorem lcTi {K : PySem.W.Frag} {a : Addr} {xs : List V} {f : Pol} {σ : L2.St} {H : Hp} {vs : List Nat} {i j : Nat} {te tv : TE} {Q : VK} (G : Int × Int → Int) (hv : ∀ R : VK, R (.ref a) H → tv σ H R) (hs : SqT K H a xs) (hP : Prs K H xs f) (hl : f.length ≤ 100000)
    (hw : ∀ x y, wipe (((wipe σ vs).set i (some x)).set j (some y)) vs = wipe σ vs)
    (he : ∀ t ∈ f, ∀ H2, Same H H2 → ∀ R : VK, R (.int (G t)) H2 → te (((wipe σ vs).set i (some (.int t.1))).set j (some (.int t.2))) H2 R)
    (k : ∀ D H2, H D = none → Same H H2 → H2 D = some (.lst ((f.map G).map V.int)) → Q (.ref D) H2) : tLc (iTup K tv) (gTup K 2 (gCons (gName i) (gCons (gName j) gNil))) tYes te vs σ H Q := by
  refine hv _ ⟨a, rfl, ⟨_, hs⟩, fun D nD => lc_tup (K := K) (a := a) (xs := xs) (fun m H2 => Same H H2 ∧ H2 D = some (.lst (((f.take m).map G).map V.int))) ⟨same_new nD, upd_same⟩ (fun m H2 _ g => same_t g.1 hs) ?_ ?_⟩
  · rintro m x H2 hm ⟨s2, h2⟩
    obtain ⟨t, ht, b, rfl, hb⟩ := hP.get hm
    refine ⟨b, _, rfl, same_t s2 hb, rfl, _, _, rfl, _, _, rfl, rfl, hw _ _, ?_⟩
    dsimp only [tYes]
    rw [if_pos rfl]
    have hm2 : m < f.length := (List.getElem?_eq_some_iff.mp ht).1
    refine he t (List.mem_of_getElem? ht) H2 s2 _ ⟨_, h2, sl_lt (by rw [List.length_map, List.length_map, List.length_take]; omega), same_mut s2 nD, ?_⟩
    rw [upd_same, take_snoc ht, List.map_append, List.map_append]
    rfl
  · rintro H2 ⟨s2, h2⟩
    rw [hP.len, List.take_length] at h2
    exact k D H2 nD s2 h2
/-- [a pair of ints for k in range(..)], drawn by the pen -/
theorem lcPenP {K : PySem.W.Frag} {p c : Addr} {σ : L2.St} {H : Hp} {vs : List Nat} {i : Nat} {te : TE} {ta : TA} {Q : VK} (R : Int × Int → Prop) (N b cost : Nat) (hn : N ≤ 1000)
    (hw : ∀ x, wipe ((wipe σ vs).set i (some x)) vs = wipe σ vs) (pen0 : PenAt H p c 0 ∨ ∃ n, PenAt H p c n)
    (hv : ∀ S : List V → Hp → Prop, (∀ (r : Int) H1, 0 ≤ r → r ≤ (N : Int) → Kp p H H1 → PenAt H1 p c b → S [.int r] H1) → ta σ H S)
    (he : ∀ (m : Nat), m < N → ∀ H2, Kp p H H2 → PenAt H2 p c (b + cost * m) → ∀ S : VK, (∀ t H3 q, R t → H3 q = none → Kp p H2 H3 → PenAt H3 p c (b + cost * (m + 1)) → S (.ref q) (upd H3 q (.tup [.int t.1, .int t.2]))) → te ((wipe σ vs).set i (some (.int (0 + (m : Int))))) H2 S)
    (k : ∀ D H2 f, LPol K H2 (.ref D) f → f.length ≤ N → (∀ t ∈ f, R t) → Kp p H H2 → PenAt H2 p c (b + cost * N) → Q (.ref D) H2) : tLc (iRng1 ta) (gName i) tYes te vs σ H Q := by
  refine hv _ fun r H1 h0 h9 kp1 pen1 => ?_
  refine ⟨r, rfl, by omega, by omega, fun D nD => ?_⟩
  have npD := pen1.np nD
  have ncD := pen1.nc nD
  refine lc_range (lo := 0) (n := r.toNat) (fun m H2 => ∃ xs f, H2 D = some (.lst xs) ∧ Prs K H2 xs f ∧ f.length = m ∧ (∀ t ∈ f, R t) ∧ Kp p H1 H2 ∧ PenAt H2 p c (b + cost * m)) ⟨[], [], upd_same, .nil, rfl, fun t h => absurd h List.not_mem_nil, Same.kp (same_new nD), pen1.same (same_new nD)⟩ ?_ ?_
  · rintro m H2 hm ⟨xs, f, hD, hP, hl, hR, kp, pen2⟩
    refine ⟨hw _, ?_⟩
    dsimp only [tYes]
    rw [if_pos rfl]
    refine he m (by omega) H2 (kp1.trans kp) pen2 _ fun t H3 q ht nq k3 pen3 => ?_
    have hD3 : H3 D = some (.lst xs) := k3 _ _ npD hD
    have nDq : D ≠ q := ne_of_none hD3 nq
    have hD4 : upd H3 q (.tup [.int t.1, .int t.2]) D = some (.lst xs) := by
      rw [upd_ne nDq]
      exact hD3
    have t2 : Tp (upd H3 q (.tup [.int t.1, .int t.2])) (upd (upd H3 q (.tup [.int t.1, .int t.2])) D (.lst (xs ++ [.ref q]))) := tp_lst hD4
    refine ⟨xs, hD4, sl_lt (by rw [hP.len]; omega), xs ++ [.ref q], f ++ [t], upd_same, Prs.snoc (Prs.tp ((pen2.tp k3).trans ((tp_new nq).trans t2)) hP) (IsPr.tp t2 isPr_new), by rw [List.length_append, hl]; rfl, fun u hu => ?_, fun x o nx ex => ?_, (pen3.same (same_new nq)).upd npD ncD⟩
    · rcases List.mem_append.mp hu with z | z
      · exact hR u z
      · have e : u = t := by simpa using z
        rw [e]; exact ht
    · rw [upd_ne (ne_of_none ex nD)]
      have e3 := k3 _ _ nx (kp _ _ nx ex)
      rw [upd_ne (ne_of_none e3 nq)]
      exact e3
  · rintro H2 ⟨xs, f, hD, hP, hl, hR, kp, pen2⟩
    refine k D H2 f ⟨D, xs, rfl, SqL.of hD, hP⟩ (by omega) hR (kp1.trans kp) (pen2.mono ?_)
    have : r.toNat ≤ N := by omega
    exact Nat.add_le_add_left (Nat.mul_le_mul_left _ this) _
/-! ### effects that the laws draw -/
/-- canonical, of bounded size -/
structure DrE (q : Int) (g : Pol) (m : Int) (L : Nat) (B : Nat) : Prop where
  nf : Nf q g (cf g)
  len : g.length ≤ L
  abs : ∀ t ∈ g, t.1.natAbs ≤ B
  sh : m.natAbs ≤ B
def sp__law_wide : Sp := fun vs H Q _ => ∃ (p c : Addr) (most : Int) (n : Nat), vs = [.ref p, .int most] ∧ 0 ≤ most ∧ most.natAbs < 10 ^ 90 ∧ PenAt H p c n ∧ n + 7 < 2 ^ 40 ∧ ∀ r H', r.natAbs ≤ most.natAbs + 8 → Kp p H H' → PenAt H' p c (n + 7) → Q (.int r) H'
def sp__law_wide_effect (K : PySem.W.Frag) : Sp := fun vs H Q _ => ∃ (p c : Addr) (q terms most : Int) (n : Nat), vs = [.ref p, .int q, .int terms, .int most] ∧ 2 ≤ q ∧ q ≤ 97 ∧ 0 ≤ terms ∧ terms ≤ 100 ∧ 0 ≤ most ∧ most.natAbs < 10 ^ 80 ∧ PenAt H p c n ∧ n < 2 ^ 38 ∧
  ∀ v H' g sh, Kp p H H' → PenAt H' p c (n + 8 * terms.toNat + 10) → TEff K H' v g sh → DrE q g sh terms.toNat (most.natAbs + 8) → Q v H'
def sp__law_long_effect (K : PySem.W.Frag) : Sp := fun vs H Q _ => ∃ (p c : Addr) (q many : Int) (n : Nat), vs = [.ref p, .int q, .int many] ∧ 2 ≤ q ∧ q ≤ 97 ∧ 0 ≤ many ∧ many ≤ 1000 ∧ PenAt H p c n ∧ n < 2 ^ 38 ∧
  ∀ v H' g sh, Kp p H H' → PenAt H' p c (n + 5) → TEff K H' v g sh → DrE q g sh many.toNat 4000 → Q v H'
def sp__law_any_effect (K : PySem.W.Frag) : Sp := fun vs H Q _ => ∃ (p c : Addr) (q most many : Int) (n : Nat), vs = [.ref p, .int q, .int most, .int many] ∧ 2 ≤ q ∧ q ≤ 97 ∧ 0 ≤ most ∧ most.natAbs < 10 ^ 80 ∧ 0 ≤ many ∧ many ≤ 1000 ∧ PenAt H p c n ∧ n < 2 ^ 37 ∧
  ∀ v H' g sh, Kp p H H' → PenAt H' p c (n + 60) → TEff K H' v g sh → DrE q g sh 1000 (most.natAbs + 4000) → Q v H'
end DR
namespace DR
open PySem PySem.Spec PyProof.Rows L2
/-! ### any of a list of ints; an entry of a list that is added to -/
theorem truth_ints {prog : Program} {w : World} {A : Around} {ns : List Int} {its : List Value} (rv : Vals (ns.map V.int) its) :
    TruthOf prog w A (fun i v => its.toArray[i]? = some v) (fun i => (ns.map fun x => x != 0).getD i false) := fun i v s Q E hv hq => by
  have hv' : its[i]? = some v := List.getElem?_toArray ▸ hv
  have hlen : i < ns.length := by
    have h1 := rv.length
    rw [List.length_map] at h1
    rw [h1]
    exact (List.getElem?_eq_some_iff.mp hv').1
  have gx : (ns.map V.int)[i]? = some (.int ns[i]) := by
    rw [List.getElem?_map, List.getElem?_eq_getElem hlen]
    rfl
  obtain ⟨u, hu, ru⟩ := rv.get gx
  rw [hv'] at hu
  cases hu
  obtain ⟨t, rfl⟩ := ru
  have hg : (ns.map fun x => x != 0).getD i false = (ns[i] != 0) := by
    rw [List.getD_eq_getElem?_getD, List.getElem?_map, List.getElem?_eq_getElem hlen]
    rfl
  have hq' : Q ((ns.map fun x => x != 0).getD i false) s := hq
  rw [hg] at hq'
  exact truthy_int hq'
def rAnyI (K : PySem.W.Frag) : List V → Hp → VK → Prop := fun vs H Q => ∃ (a : Addr) (ns : List Int), vs = [V.ref a] ∧ SqL K H a (ns.map V.int) ∧ Q (.bl ((ns.map fun x => x != 0).any id)) H
theorem cr_anyI {X : Cx} (calm : X.calm = true) : CallR X (.builtin "any") (rAnyI X.K) := by
  intro pins now σ G given us K I r told
  obtain ⟨l, ns, rfl, seen, told⟩ := told
  obtain ⟨items, alike, there, _⟩ := I.list seen
  have count : items.length = ns.length := by simpa using alike.length.symm
  rw [Vals.ref1 r]
  refine call_any_walk (iter_any there.isList ?_)
  rintro mid rfl walk apart
  have over := Walks.list (prog := X.prog) (w := X.w) (A := X.A.in1) (I.ok.hd calm) _ l apart items.toArray
  refine ⟨_, _, _, _, _, _, _, rfl, over, walk, truth_ints alike, fun g toks kept => ⟨.bl _, G, ?_, ?_, told⟩⟩
  · refine I.kept fun b u old => kept b u (fun among => ?_) (Heap.get?_push_of_some _ old)
    have e := List.mem_singleton.mp among
    have below := Heap.lt_size old
    rw [e] at below
    exact absurd below (Nat.lt_irrefl _)
  · have range : (List.range items.toArray.size).any (fun i => (ns.map fun x => x != 0).getD i false) = (ns.map fun x => x != 0).any id := by
      rw [← L2.any_range, List.size_toArray, List.length_map, count]
    exact congrArg Value.bool range
def rGetP (K : PySem.W.Frag) : V → V → Hp → VK → Prop := fun o i H Q => ∃ (p : Addr) (xs : List V) (n : Nat) (v : V), o = .ref p ∧ i = .int (n : Int) ∧ SqL K H p xs ∧ xs[n]? = some v ∧ Q v H
theorem get_listP {X : Cx} : PGet X (rGetP X.K) := by
  intro pins s σ H o i ov iv Q I ro ri h
  obtain ⟨p, xs, n, v, rfl, rfl, hq, he, q⟩ := h
  cases ro
  obtain ⟨t, rfl⟩ := ri
  obtain ⟨items, r, pl, _⟩ := I.list hq
  obtain ⟨w, ew, rw'⟩ := r.get he
  have hn : n < xs.length := (List.getElem?_eq_some_iff.mp he).1
  have h63 := line63
  exact wpAny_getItem_list pl.isList (by omega) (by omega) (by rw [Int.toNat_natCast]; simpa using ew) ⟨v, H, I, rw', q⟩
/-! ### comprehensions of ints -/
theorem lcInt {ta : TA} {σ : L2.St} {H : Hp} {vs : List Nat} {i : Nat} {te : TE} {Q : VK} (F : Nat → Int) (n : Nat) (hn : n ≤ 100000) (ha : ∀ R : List V → Hp → Prop, R [V.int (n : Int)] H → ta σ H R)
    (hw : ∀ x, wipe ((wipe σ vs).set i (some x)) vs = wipe σ vs)
    (he : ∀ (m : Nat), m < n → ∀ H2, Same H H2 → ∀ S : VK, (∀ H3, Same H2 H3 → S (.int (F m)) H3) → te ((wipe σ vs).set i (some (.int (0 + (m : Int))))) H2 S)
    (k : ∀ D H2, H D = none → Same H H2 → H2 D = some (.lst (((List.range n).map F).map V.int)) → Q (.ref D) H2) : tLc (iRng1 ta) (gName i) tYes te vs σ H Q := by
  refine ha _ ?_
  refine ⟨(n : Int), rfl, by omega, by omega, fun D nD => lc_range (lo := 0) (n := ((n : Int)).toNat) (fun m H2 => H2 D = some (.lst (((List.range m).map F).map V.int)) ∧ Same H H2) ⟨upd_same, same_new nD⟩ ?_ ?_⟩
  · rintro m H2 hm ⟨hD, s2⟩
    rw [Int.toNat_natCast] at hm
    refine ⟨hw _, ?_⟩
    dsimp only [tYes]
    rw [if_pos rfl]
    refine he m hm H2 s2 _ fun H3 s3 => ?_
    refine ⟨_, s3 _ _ hD, sl_lt (by rw [List.length_map, List.length_map, List.length_range]; omega), ?_, fun x o ex => ?_⟩
    · rw [upd_same, List.range_succ, List.map_append, List.map_append]
      rfl
    · rw [upd_ne (ne_of_none ex nD)]
      exact s3 _ _ (s2 _ _ ex)
  · rintro H2 ⟨hD, s2⟩
    rw [Int.toNat_natCast] at hD
    exact k D H2 nD s2 hD
theorem lcZipI {K : PySem.W.Frag} {ta : TA} {σ : L2.St} {H : Hp} {vs : List Nat} {i j : Nat} {te : TE} {Q : VK} {a b : Addr} {ns ms : List Int} (F : Int → Int → Int) (ha : ∀ R : List V → Hp → Prop, R [V.ref a, V.ref b] H → ta σ H R) (h1 : SqL K H a (ns.map V.int)) (h2 : SqL K H b (ms.map V.int)) (hl : ns.length = ms.length) (hn : ns.length ≤ 100000)
    (hw : ∀ x y, wipe (((wipe σ vs).set i (some x)).set j (some y)) vs = wipe σ vs)
    (he : ∀ x ∈ ns, ∀ y ∈ ms, ∀ H2, Same H H2 → ∀ S : VK, S (.int (F x y)) H2 → te (((wipe σ vs).set i (some (.int x))).set j (some (.int y))) H2 S)
    (k : ∀ D H2, H D = none → Same H H2 → H2 D = some (.lst ((List.zipWith F ns ms).map V.int)) → Q (.ref D) H2) : tLc (RZ.iZipA K ta) (gTup K 2 (gCons (gName i) (gCons (gName j) gNil))) tYes te vs σ H Q := by
  refine ha _ ?_
  refine ⟨a, b, _, _, rfl, .inl ⟨h1, h2, fun D nD => ?_⟩⟩
  refine lc_it (walk_zip (K := K) (a := a) (b := b) (xs := ns.map V.int) (ys := ms.map V.int) (n := ns.length) (by rw [List.length_map, List.length_map]; omega)) (fun m H2 => H2 D = some (.lst (((List.zipWith F ns ms).take m).map V.int)) ∧ Same H H2) ⟨upd_same, same_new nD⟩ ?_ ?_ ?_
  · rintro m H2 _ ⟨_, s2⟩
    exact ⟨same_l s2 h1, same_l s2 h2⟩
  · rintro m v H2 H3 hm ⟨hD, s2⟩ ⟨T, x, y, rfl, nT, rfl, gx, gy⟩
    have hm2 : m < ms.length := by omega
    have gx : (ns.map V.int)[m]? = some x := gx
    have gy : (ms.map V.int)[m]? = some y := gy
    have ex : x = .int ns[m] := by
      rw [List.getElem?_map, List.getElem?_eq_getElem hm] at gx
      exact (Option.some.inj gx).symm
    have ey : y = .int ms[m] := by
      rw [List.getElem?_map, List.getElem?_eq_getElem hm2] at gy
      exact (Option.some.inj gy).symm
    subst ex
    subst ey
    have s3 := same_new nT (o := HO.tup [V.int ns[m], V.int ms[m]])
    refine ⟨T, _, rfl, SqT.of upd_same, rfl, _, _, rfl, ?_⟩
    refine ⟨_, _, rfl, rfl, hw _ _, ?_⟩
    dsimp only [tYes]
    rw [if_pos rfl]
    refine he _ (List.getElem_mem hm) _ (List.getElem_mem hm2) _ (s2.trans s3) _ ?_
    refine ⟨_, s3 _ _ hD, sl_lt (by rw [List.length_map, List.length_take]; omega), ?_, fun x o ex => ?_⟩
    · have hz : m < (List.zipWith F ns ms).length := by rw [List.length_zipWith]; omega
      rw [upd_same, List.take_succ_eq_append_getElem hz, List.map_append]
      show _ = some (HO.lst (_ ++ [V.int (List.zipWith F ns ms)[m]]))
      rw [List.getElem_zipWith]
    · rw [upd_ne (ne_of_none ex nD)]
      exact s3 _ _ (s2 _ _ ex)
  · rintro H2 ⟨hD, s2⟩
    have : (List.zipWith F ns ms).take ns.length = List.zipWith F ns ms := List.take_of_length_le (by rw [List.length_zipWith]; omega)
    rw [this] at hD
    exact k D H2 nD s2 hD
end DR
namespace DR
open PySem PySem.Spec PyProof.Rows L2
/-! ### series as lists of ints -/
def cvS (a b : List Int) (i : Nat) : Int := ((List.range (i + 1)).map fun k => a.getD k 0 * b.getD (i - k) 0).sum
def prodL (a b : List Int) : List Int := (List.range a.length).map fun i => cvS a b i
def addL (f : Int) (a b : List Int) : List Int := List.zipWith (fun x y => x + f * y) a b
def delL (s : List Int) (n : Nat) : List Int := (List.replicate n 0 ++ s).take s.length
def unitL (n : Nat) : List Int := [1] ++ List.replicate (n - 1) 0
theorem prodL_len (a b : List Int) : (prodL a b).length = a.length := by rw [prodL, List.length_map, List.length_range]
theorem addL_len {f : Int} {a b : List Int} (h : a.length = b.length) : (addL f a b).length = a.length := by rw [addL, List.length_zipWith]; omega
theorem delL_len (s : List Int) (n : Nat) : (delL s n).length = s.length := by rw [delL, List.length_take, List.length_append, List.length_replicate]; omega
theorem unitL_len {n : Nat} (h : 1 ≤ n) : (unitL n).length = n := by rw [unitL, List.length_append, List.length_replicate]; show 1 + _ = _; omega
theorem getD_map_range (F : Nat → Int) (n i : Nat) : ((List.range n).map F).getD i 0 = if i < n then F i else 0 := by
  rw [List.getD_eq_getElem?_getD, List.getElem?_map]
  by_cases h : i < n
  · rw [if_pos h, List.getElem?_eq_getElem (by rw [List.length_range]; exact h), List.getElem_range]
    rfl
  · rw [if_neg h, List.getElem?_eq_none (by rw [List.length_range]; omega)]
    rfl
theorem prodL_get (a b : List Int) (i : Nat) : (prodL a b).getD i 0 = if i < a.length then cvS a b i else 0 := getD_map_range _ _ _
theorem addL_get {f : Int} {a b : List Int} (h : a.length = b.length) (i : Nat) : (addL f a b).getD i 0 = a.getD i 0 + f * b.getD i 0 := by
  rw [addL, List.getD_eq_getElem?_getD, List.getD_eq_getElem?_getD, List.getD_eq_getElem?_getD, List.getElem?_zipWith]
  by_cases hi : i < a.length
  · rw [List.getElem?_eq_getElem hi, List.getElem?_eq_getElem (by omega : i < b.length)]
    rfl
  · rw [List.getElem?_eq_none (by omega), List.getElem?_eq_none (by omega : b.length ≤ i)]
    show (0 : Int) = 0 + f * 0
    rw [Int.mul_zero]
    rfl
theorem delL_get (s : List Int) (n i : Nat) : (delL s n).getD i 0 = if i < n then 0 else if i < s.length then s.getD (i - n) 0 else 0 := by
  rw [delL, List.getD_eq_getElem?_getD, List.getD_eq_getElem?_getD, List.getElem?_take]
  by_cases hi : i < s.length
  · rw [if_pos hi, if_pos hi]
    by_cases hn : i < n
    · rw [if_pos hn, List.getElem?_append_left (by rw [List.length_replicate]; exact hn), List.getElem?_replicate, if_pos hn]
      rfl
    · rw [if_neg hn, List.getElem?_append_right (by rw [List.length_replicate]; omega), List.length_replicate]
  · rw [if_neg hi, if_neg hi]
    split <;> rfl
theorem list_ext {a b : List Int} (hl : a.length = b.length) (h : ∀ i, i < a.length → a.getD i 0 = b.getD i 0) : a = b := by
  refine List.ext_getElem hl fun i h1 h2 => ?_
  have := h i h1
  rw [List.getD_eq_getElem?_getD, List.getD_eq_getElem?_getD, List.getElem?_eq_getElem h1, List.getElem?_eq_getElem h2] at this
  exact this
/-! ### sizes -/
def Bn (n : Nat) (l : List Int) : Prop := ∀ x ∈ l, x.natAbs ≤ 2 ^ n
theorem Bn.mono {m n : Nat} {l : List Int} (h : Bn m l) (hm : m ≤ n) : Bn n l := fun x hx => Nat.le_trans (h x hx) (Nat.pow_le_pow_right (by decide) hm)
theorem Bn.get {n : Nat} {l : List Int} (h : Bn n l) (i : Nat) : (l.getD i 0).natAbs ≤ 2 ^ n := by
  rw [List.getD_eq_getElem?_getD]
  by_cases hi : i < l.length
  · rw [List.getElem?_eq_getElem hi]
    exact h _ (List.getElem_mem hi)
  · rw [List.getElem?_eq_none (by omega)]
    exact Nat.zero_le _
theorem Bn.lt {n : Nat} {l : List Int} (h : Bn n l) (i : Nat) : (l.getD i 0).natAbs < 2 ^ (n + 1) := Nat.lt_of_le_of_lt (h.get i) (Nat.pow_lt_pow_right (by decide) (by omega))
theorem sum_bdN : ∀ (l : List Int) (b : Nat), (∀ x ∈ l, x.natAbs ≤ b) → l.sum.natAbs ≤ b * l.length
  | [], b, _ => Nat.zero_le _
  | x :: r, b, h => by
    have h1 := h x List.mem_cons_self
    have h2 := sum_bdN r b fun y hy => h y (List.mem_cons_of_mem _ hy)
    rw [List.sum_cons, List.length_cons, Nat.mul_add, Nat.mul_one]
    omega
theorem bn_prod {m n : Nat} {a b : List Int} (hl : a.length ≤ 64) (ha : Bn m a) (hb : Bn n b) : Bn (m + n + 6) (prodL a b) := by
  intro x hx
  obtain ⟨i, hi, rfl⟩ := List.mem_map.mp hx
  rw [List.mem_range] at hi
  refine Nat.le_trans (sum_bdN _ (2 ^ m * 2 ^ n) fun y hy => ?_) ?_
  · obtain ⟨k, _, rfl⟩ := List.mem_map.mp hy
    rw [Int.natAbs_mul]
    exact Nat.mul_le_mul (ha.get k) (hb.get _)
  · rw [List.length_map, List.length_range, Nat.pow_add, Nat.pow_add]
    exact Nat.mul_le_mul (Nat.le_refl _) (by omega)
theorem bn_add {m : Nat} {f : Int} {a b : List Int} (hf : f.natAbs ≤ 2) (ha : Bn m a) (hb : Bn m b) : Bn (m + 2) (addL f a b) := by
  intro x hx
  obtain ⟨i, hi, rfl⟩ := List.getElem_of_mem hx
  have e : (addL f a b)[i] = a[i]'(by rw [addL, List.length_zipWith] at hi; omega) + f * b[i]'(by rw [addL, List.length_zipWith] at hi; omega) := by
    exact List.getElem_zipWith
  rw [e]
  have h1 := ha _ (List.getElem_mem (l := a) (n := i) (by rw [addL, List.length_zipWith] at hi; omega))
  have h2 := hb _ (List.getElem_mem (l := b) (n := i) (by rw [addL, List.length_zipWith] at hi; omega))
  refine Nat.le_trans (Int.natAbs_add_le _ _) ?_
  rw [Int.natAbs_mul, Nat.pow_add]
  have h3 := Nat.mul_le_mul hf h2
  omega
theorem bn_del {m n : Nat} {a : List Int} (ha : Bn m a) : Bn m (delL a n) := fun x hx => by
  rcases List.mem_append.mp (List.mem_of_mem_take hx) with h | h
  · rw [(List.mem_replicate.mp h).2]
    exact Nat.zero_le _
  · exact ha x h
theorem bn_unit (n : Nat) : Bn 0 (unitL n) := fun x hx => by
  rcases List.mem_append.mp hx with h | h
  · rw [List.mem_singleton.mp h]
    decide
  · rw [(List.mem_replicate.mp h).2]
    exact Nat.zero_le _
/-! ### where a series begins -/
def Zr (l : List Int) : Prop := ∀ i, l.getD i 0 = 0
def Lw (n : Nat) (l : List Int) : Prop := ∀ i, i < n → l.getD i 0 = 0
theorem sum_zero : ∀ (l : List Int), (∀ x ∈ l, x = 0) → l.sum = 0
  | [], _ => rfl
  | x :: r, h => by
    rw [List.sum_cons, h x List.mem_cons_self, sum_zero r fun y hy => h y (List.mem_cons_of_mem _ hy)]
    rfl
theorem lw_prod {n : Nat} {a b : List Int} (h : Lw n a) : Lw n (prodL a b) := fun i hi => by
  rw [prodL_get]
  split
  · refine sum_zero _ fun x hx => ?_
    obtain ⟨k, hk, rfl⟩ := List.mem_map.mp hx
    rw [List.mem_range] at hk
    rw [h k (by omega), Int.zero_mul]
  · rfl
theorem lw_del {n d : Nat} {a : List Int} (h : Lw n a) : Lw (n + d) (delL a d) := fun i hi => by
  rw [delL_get]
  split
  · rfl
  · split
    · exact h _ (by omega)
    · rfl
theorem Lw.zr {n : Nat} {l : List Int} (h : Lw n l) (hn : l.length ≤ n) : Zr l := fun i => by
  by_cases hi : i < n
  · exact h i hi
  · rw [List.getD_eq_getElem?_getD, List.getElem?_eq_none (by omega)]
    rfl
theorem zr_next {a b : List Int} {d : Nat} (h : Zr a) : Zr (delL (prodL a b) d) := by
  have h1 : Lw a.length (prodL a b) := lw_prod fun i _ => h i
  have h2 := lw_del (d := d) h1
  exact h2.zr (by rw [delL_len, prodL_len]; omega)
theorem zr_any {l : List Int} : (l.map fun x => x != 0).any id = false ↔ Zr l := by
  constructor
  · intro h i
    rw [List.getD_eq_getElem?_getD]
    by_cases hi : i < l.length
    · rw [List.getElem?_eq_getElem hi]
      rw [List.any_map, List.any_eq_false] at h
      have := h _ (List.getElem_mem hi)
      simpa using this
    · rw [List.getElem?_eq_none (by omega)]
      rfl
  · intro h
    rw [List.any_map, List.any_eq_false]
    intro x hx
    obtain ⟨i, hi, rfl⟩ := List.getElem_of_mem hx
    have := h i
    rw [List.getD_eq_getElem?_getD, List.getElem?_eq_getElem hi] at this
    have e : l[i] = 0 := this
    simp [e]
/-! ### sums of ever later parts -/
def partN (P0 D : List Int) (d : Nat) : Nat → List Int
  | 0 => P0
  | j + 1 => delL (prodL (partN P0 D d j) D) d
def sumN (f : Int) (S P0 D : List Int) (d : Nat) : Nat → List Int
  | 0 => S
  | j + 1 => addL f (sumN f S P0 D d j) (partN P0 D d j)
section
variable {f : Int} {S P0 D : List Int} {d : Nat}
theorem partN_len (j : Nat) : (partN P0 D d j).length = P0.length := by
  induction j with
  | zero => rfl
  | succ j ih => rw [partN, delL_len, prodL_len, ih]
theorem sumN_len (h : S.length = P0.length) (j : Nat) : (sumN f S P0 D d j).length = P0.length := by
  induction j with
  | zero => exact h
  | succ j ih => rw [sumN, addL_len (by rw [ih, partN_len]), ih]
theorem partN_lw (h : Lw d P0) (j : Nat) : Lw (d * (j + 1)) (partN P0 D d j) := by
  induction j with
  | zero => rw [Nat.zero_add, Nat.mul_one]; exact h
  | succ j ih =>
    have := lw_del (d := d) (lw_prod (b := D) ih)
    rw [show d * (j + 1 + 1) = d * (j + 1) + d by rw [Nat.mul_add d (j + 1), Nat.mul_one]]
    exact this
theorem partN_zr (h : Lw d P0) {j : Nat} (hj : P0.length ≤ d * (j + 1)) : Zr (partN P0 D d j) := (partN_lw h j).zr (by rw [partN_len]; exact hj)
theorem partN_zr_up {j : Nat} (h : Zr (partN P0 D d j)) : ∀ k, Zr (partN P0 D d (j + k))
  | 0 => h
  | k + 1 => zr_next (partN_zr_up h k)
theorem sumN_stable (hl : S.length = P0.length) {j : Nat} (h : Zr (partN P0 D d j)) : ∀ k, sumN f S P0 D d (j + k) = sumN f S P0 D d j
  | 0 => rfl
  | k + 1 => by
    show addL f (sumN f S P0 D d (j + k)) (partN P0 D d (j + k)) = _
    rw [sumN_stable hl h k]
    refine list_ext (by rw [addL_len (by rw [sumN_len hl, partN_len])]) fun i _ => ?_
    rw [addL_get (by rw [sumN_len hl, partN_len]), partN_zr_up h k i, Int.mul_zero, Int.add_zero]
theorem partN_bn {m : Nat} (hl : P0.length ≤ 64) (h0 : Bn m P0) (hD : Bn 7 D) (j : Nat) : Bn (m + 13 * j) (partN P0 D d j) := by
  induction j with
  | zero => exact h0
  | succ j ih => exact (bn_del (bn_prod (by rw [partN_len]; exact hl) ih hD)).mono (by omega)
theorem sumN_bn {m : Nat} (hf : f.natAbs ≤ 2) (hl : P0.length ≤ 64) (h0 : Bn m P0) (hS : Bn m S) (hD : Bn 7 D) (j : Nat) : Bn (m + 15 * j) (sumN f S P0 D d j) := by
  induction j with
  | zero => exact hS
  | succ j ih => exact (bn_add hf ih ((partN_bn hl h0 hD j).mono (by omega))).mono (by omega)
end
/-! ### the product the other way round -/
theorem cvS_comm (a b : List Int) (i : Nat) : cvS a b i = cvS b a i := by
  unfold cvS
  rw [← List.sum_reverse, ← List.map_reverse]
  have e : (List.range (i + 1)).reverse = (List.range (i + 1)).map fun k => i - k := by
    refine List.ext_getElem (by simp) fun k h1 h2 => ?_
    simp
  rw [e, List.map_map]
  congr 1
  refine List.map_congr_left fun k hk => ?_
  rw [List.mem_range] at hk
  show a.getD (i - k) 0 * b.getD (i - (i - k)) 0 = _
  rw [show i - (i - k) = k by omega, Int.mul_comm]
end DR
namespace DR
open PySem PySem.Spec PyProof.Rows L2
theorem ix_lC {X : Cx} (K : PySem.W.Frag) (h : X.K = K) : IxR X (rIxL K) := h ▸ ix_list
theorem mt_lcC {X : Cx} (K : PySem.W.Frag) (h : X.K = K) : MtR X "list.count" (rCntI K) := h ▸ mt_lcount
theorem cr_sumC {X : Cx} (K : PySem.W.Frag) (h : X.K = K) (hc : X.calm = true) : CallR X (.builtin "sum") (rSum K) := h ▸ cr_sum hc
theorem iteZ {c A B : Prop} [Decidable c] (hc : ¬ c) (h : B) : if decide c = true then A else B := by
  rw [if_neg (by rw [decide_eq_true_eq]; exact hc)]
  exact h
theorem rep_zero : ∀ d : Nat, (List.replicate d [V.int 0]).flatten = (List.replicate d (0 : Int)).map V.int
  | 0 => rfl
  | d + 1 => by rw [List.replicate_succ, List.flatten_cons, rep_zero d, List.replicate_succ]; rfl
theorem atI_nI {ns : List Int} {k : Nat} {z : Int} (hz : z = (k : Int)) (h : k < ns.length) : atI (ns.map V.int) z = some (.int (ns.getD k 0)) := by
  subst hz
  unfold atI ixN
  rw [if_pos (by omega), if_pos (by rw [List.length_map]; omega), Int.toNat_natCast]
  show (ns.map V.int)[k]? = _
  rw [List.getElem?_map, List.getD_eq_getElem?_getD, List.getElem?_eq_getElem h]
  rfl
def LI (H : Hp) (v : V) (ns : List Int) : Prop := ∃ a, v = .ref a ∧ H a = some (.lst (ns.map V.int))
theorem LI.same {H H' : Hp} {v : V} {ns : List Int} (s : Same H H') (h : LI H v ns) : LI H' v ns := by
  obtain ⟨a, rfl, e⟩ := h
  exact ⟨a, rfl, s _ _ e⟩
theorem cut_to (xs : List V) {n : Nat} (h : n ≤ xs.length) : cutV xs none (some (n : Int)) = xs.take n := by
  unfold cutV
  have e1 : HT.sIx xs.length 0 none = 0 := rfl
  have e2 : HT.sIx xs.length xs.length (some (n : Int)) = n := by
    unfold HT.sIx
    simp only []
    split <;> omega
  rw [e1, e2, List.drop_zero, Nat.sub_zero]
theorem cut_from (xs : List V) {n : Nat} (h : n ≤ xs.length) : cutV xs (some (n : Int)) none = xs.drop n := by
  unfold cutV
  have e1 : HT.sIx xs.length xs.length none = xs.length := rfl
  have e2 : HT.sIx xs.length 0 (some (n : Int)) = n := by
    unfold HT.sIx
    simp only []
    split <;> omega
  rw [e1, e2, List.take_of_length_le (by rw [List.length_drop]; omega)]
def sideL (D : List Int) : List Int := sumN 1 (unitL D.length) (delL (addL (-1) D (unitL D.length)) 2) D 2 ((D.length - 1) / 2)
def midL (D : List Int) : List Int := sumN 2 D (delL (prodL D D) 1) D 1 (D.length - 1)
def dialL (p m : Nat) : List Int := (List.range (m + 1)).map fun c : Nat => ((((List.range p).map fun v : Nat => ft (p : Int) (v : Int)).count (c : Int) : Nat) : Int)
def cntE (p m : Nat) : Int := (prodL (prodL (sideL (dialL p m)) (sideL (dialL p m))) (midL (dialL p m))).getD m 0
theorem dialL_len (p m : Nat) : (dialL p m).length = m + 1 := by rw [dialL, List.length_map, List.length_range]
theorem dialL_bn {p : Nat} (m : Nat) (hp : p ≤ 97) : Bn 7 (dialL p m) := fun x hx => by
  obtain ⟨c, _, rfl⟩ := List.mem_map.mp hx
  have h := List.count_le_length (a := (c : Int)) (l := (List.range p).map fun v : Nat => ft (p : Int) (v : Int))
  rw [List.length_map, List.length_range] at h
  show ((_ : Nat) : Int).natAbs ≤ 128
  rw [Int.natAbs_natCast]
  omega
theorem side_len {D : List Int} (h : 1 ≤ D.length) : (sideL D).length = D.length := by
  have e : (delL (addL (-1) D (unitL D.length)) 2).length = D.length := by rw [delL_len, addL_len (by rw [unitL_len h])]
  rw [sideL, sumN_len (by rw [e, unitL_len h]), e]
theorem mid_len {D : List Int} : (midL D).length = D.length := by
  have e : (delL (prodL D D) 1).length = D.length := by rw [delL_len, prodL_len]
  rw [midL, sumN_len (by rw [e]), e]
def sp_product_of (K : PySem.W.Frag) : Sp := fun vs H Q _ => ∃ (v1 v2 : V) (a b : List Int), vs = [v1, v2] ∧ LI H v1 a ∧ LI H v2 b ∧ a.length = b.length ∧ a.length ≤ 64 ∧ Bn 9000 a ∧ Bn 9000 b ∧ ∀ u H', Same H H' → LI H' u (prodL a b) → Q u H'
def sp_sum_of (K : PySem.W.Frag) : Sp := fun vs H Q _ => ∃ (v1 v2 : V) (a b : List Int) (f : Int), vs = [v1, v2, .int f] ∧ LI H v1 a ∧ LI H v2 b ∧ a.length = b.length ∧ a.length ≤ 64 ∧ f.natAbs ≤ 2 ∧ Bn 9000 b ∧ ∀ u H', Same H H' → LI H' u (addL f a b) → Q u H'
def sp_delayed (K : PySem.W.Frag) : Sp := fun vs H Q _ => ∃ (v : V) (a : List Int) (d : Nat), vs = [v, .int (d : Int)] ∧ LI H v a ∧ d ≤ 2 ∧ a.length ≤ 64 ∧ ∀ u H', Same H H' → LI H' u (delL a d) → Q u H'
def sp_dial_series (K : PySem.W.Frag) : Sp := fun vs H Q _ => ∃ (p m : Nat), vs = [.int (p : Int), .int (m : Int)] ∧ p ≤ 97 ∧ m ≤ 60 ∧ ∀ u H', Same H H' → LI H' u (dialL p m) → Q u H'
def sp_side_series (K : PySem.W.Frag) : Sp := fun vs H Q _ => ∃ (v : V) (D : List Int), vs = [v] ∧ LI H v D ∧ 1 ≤ D.length ∧ D.length ≤ 61 ∧ Bn 7 D ∧ ∀ u H', Same H H' → LI H' u (sideL D) → Q u H'
def sp_middle_series (K : PySem.W.Frag) : Sp := fun vs H Q _ => ∃ (v : V) (D : List Int), vs = [v] ∧ LI H v D ∧ 1 ≤ D.length ∧ D.length ≤ 61 ∧ Bn 7 D ∧ ∀ u H', Same H H' → LI H' u (midL D) → Q u H'
def sp_count_effects (K : PySem.W.Frag) : Sp := fun vs H Q _ => ∃ (p m : Nat), vs = [.int (p : Int), .int (m : Int)] ∧ p ≤ 97 ∧ m ≤ 60 ∧ ∀ H', Same H H' → Q (.int (cntE p m)) H'
theorem side_bn {D : List Int} (h1 : 1 ≤ D.length) (h2 : D.length ≤ 61) (hD : Bn 7 D) : Bn 459 (sideL D) := by
  have e : (delL (addL (-1) D (unitL D.length)) 2).length = D.length := by rw [delL_len, addL_len (by rw [unitL_len h1])]
  exact (sumN_bn (m := 9) (by decide) (by rw [e]; omega) (bn_del (bn_add (by decide) hD ((bn_unit _).mono (by omega)))) ((bn_unit _).mono (by omega)) hD _).mono (by omega)
theorem mid_bn {D : List Int} (h2 : D.length ≤ 61) (hD : Bn 7 D) : Bn 920 (midL D) := by
  have e : (delL (prodL D D) 1).length = D.length := by rw [delL_len, prodL_len]
  exact (sumN_bn (m := 20) (by decide) (by rw [e]; omega) (bn_del (bn_prod (by omega) hD hD)) (hD.mono (by omega)) hD _).mono (by omega)
/-! ### how often each number of turns occurs -/
def dialP (p m i : Nat) : List Int := (List.range (m + 1)).map fun c : Nat => ((((List.range i).map fun v : Nat => ft (p : Int) (v : Int)).count (c : Int) : Nat) : Int)
theorem dialP_len (p m i : Nat) : (dialP p m i).length = m + 1 := by rw [dialP, List.length_map, List.length_range]
theorem dialP_zero (p m : Nat) : dialP p m 0 = List.replicate (m + 1) 0 := by
  refine List.ext_getElem (by rw [dialP_len, List.length_replicate]) fun i h1 h2 => ?_
  simp [dialP]
theorem cnt_succ (f : Nat → Int) (i : Nat) (c : Int) : ((List.range (i + 1)).map f).count c = ((List.range i).map f).count c + if f i = c then 1 else 0 := by
  rw [List.range_succ, List.map_append, List.count_append, List.map_cons, List.map_nil, List.count_singleton]
  congr 1
  by_cases h : f i = c <;> simp [h]
theorem dialP_out {p m i : Nat} (h : (m : Int) < ft p i) : dialP p m (i + 1) = dialP p m i := by
  unfold dialP
  refine List.map_congr_left fun c hc => ?_
  rw [List.mem_range] at hc
  rw [cnt_succ, if_neg (by omega)]
  rfl
theorem dialP_in {p m i j : Nat} (hj : ft p i = (j : Int)) (h : j < m + 1) : (dialP p m i).set j ((dialP p m i).getD j 0 + 1) = dialP p m (i + 1) := by
  refine list_ext (by rw [List.length_set, dialP_len, dialP_len]) fun c hc => ?_
  rw [List.length_set, dialP_len] at hc
  have e : ∀ n, (dialP p m n).getD c 0 = ((((List.range n).map fun v : Nat => ft (p : Int) (v : Int)).count (c : Int) : Nat) : Int) := fun n => by
    rw [dialP, getD_map_range, if_pos hc]
  rw [e, cnt_succ, List.getD_eq_getElem?_getD, List.getElem?_set]
  by_cases hcj : j = c
  · subst hcj
    rw [if_pos rfl, if_pos (by rw [dialP_len]; exact h), if_pos hj, e]
    show _ + 1 = _
    omega
  · rw [if_neg hcj, if_neg (by omega), ← List.getD_eq_getElem?_getD, e]
    rfl
theorem ft_rng {p v : Int} (h0 : 0 ≤ v) (h1 : v ≤ p) : 0 ≤ ft p v := by
  unfold ft
  split <;> omega
/-! ### the law's own count -/
def sp_cost0 : Sp := fun vs H Q _ => ∃ (p v : Int), vs = [.int p, .int v] ∧ 0 ≤ v ∧ v < p ∧ Q (.int (ft p v)) H
def sp__law_count (K : PySem.W.Frag) : Sp := fun vs H Q _ => ∃ (p m : Nat), vs = [.int (p : Int), .int (m : Int)] ∧ p ≤ 97 ∧ m ≤ 60 ∧ (dialL p m).getD 0 0 = 1 ∧ ∀ H', Same H H' → Q (.int (cntE p m)) H'
theorem unitL_get (n i : Nat) : (unitL n).getD i 0 = if i = 0 then 1 else 0 := by
  unfold unitL
  cases i with
  | zero => rfl
  | succ i =>
    rw [if_neg (by omega), List.getD_eq_getElem?_getD]
    show ((List.replicate (n - 1) (0 : Int))[i]?).getD 0 = 0
    rw [List.getElem?_replicate]
    split <;> rfl
theorem turned_eq {D : List Int} (h1 : 1 ≤ D.length) (h0 : D.getD 0 0 = 1) : [0] ++ D.drop 1 = addL (-1) D (unitL D.length) := by
  have hu : D.length = (unitL D.length).length := by rw [unitL_len h1]
  refine list_ext (by rw [addL_len hu, List.length_append, List.length_drop]; show 1 + _ = _; omega) fun i _ => ?_
  rw [addL_get hu, unitL_get]
  cases i with
  | zero => rw [h0]; rfl
  | succ i =>
    rw [if_neg (by omega), Int.mul_zero, Int.add_zero, List.getD_eq_getElem?_getD, List.getD_eq_getElem?_getD]
    show ((D.drop 1)[i]?).getD 0 = _
    rw [List.getElem?_drop, Nat.add_comm]
theorem rep_get (n i : Nat) : (List.replicate n (0 : Int)).getD i 0 = 0 := by
  rw [List.getD_eq_getElem?_getD, List.getElem?_replicate]
  split <;> rfl
theorem sumN_from {f : Int} {S Z P0 D : List Int} {d : Nat} (h1 : S.length = P0.length) (h2 : Z.length = P0.length) (hz : Zr Z) (i : Nat) : ∀ j, (sumN f S P0 D d j).getD i 0 = S.getD i 0 + (sumN f Z P0 D d j).getD i 0
  | 0 => by
    show S.getD i 0 = S.getD i 0 + Z.getD i 0
    rw [hz i, Int.add_zero]
  | j + 1 => by
    show (addL f _ _).getD i 0 = _ + (addL f _ _).getD i 0
    rw [addL_get (by rw [sumN_len h1, partN_len]), addL_get (by rw [sumN_len h2, partN_len]), sumN_from h1 h2 hz i j, Int.add_assoc]
theorem side_eq {D : List Int} (h1 : 1 ≤ D.length) (j : Nat) : addL 1 (sumN 1 (List.replicate D.length 0) (delL (addL (-1) D (unitL D.length)) 2) D 2 j) (unitL D.length) = sumN 1 (unitL D.length) (delL (addL (-1) D (unitL D.length)) 2) D 2 j := by
  have hu : D.length = (unitL D.length).length := by rw [unitL_len h1]
  have eP : (delL (addL (-1) D (unitL D.length)) 2).length = D.length := by rw [delL_len, addL_len hu]
  have l0 : (List.replicate D.length (0 : Int)).length = (delL (addL (-1) D (unitL D.length)) 2).length := by rw [eP, List.length_replicate]
  have l1 : (unitL D.length).length = (delL (addL (-1) D (unitL D.length)) 2).length := by rw [eP, ← hu]
  have la : (sumN 1 (List.replicate D.length 0) (delL (addL (-1) D (unitL D.length)) 2) D 2 j).length = (unitL D.length).length := by rw [sumN_len l0, l1]
  refine list_ext (by rw [addL_len la, la, sumN_len l1, l1]) fun i _ => ?_
  rw [addL_get la, sumN_from l1 l0 (fun i => rep_get _ i) i j, Int.one_mul, Int.add_comm]
theorem first_eq {D : List Int} : addL 1 (List.replicate D.length 0) D = D := by
  have l : (List.replicate D.length (0 : Int)).length = D.length := List.length_replicate
  refine list_ext (by rw [addL_len l, l]) fun i _ => ?_
  rw [addL_get l, rep_get, Int.one_mul, Int.zero_add]
def totN (D : List Int) : Nat → List Int
  | 0 => List.replicate D.length 0
  | i + 1 => sumN 2 D (delL (prodL D D) 1) D 1 i
def mdN (D : List Int) : Nat → List Int
  | 0 => D
  | i + 1 => partN (delL (prodL D D) 1) D 1 i
theorem totN_len (D : List Int) (i : Nat) : (totN D i).length = D.length := by
  cases i with
  | zero => exact List.length_replicate
  | succ i =>
    have e : (delL (prodL D D) 1).length = D.length := by rw [delL_len, prodL_len]
    rw [totN, sumN_len (by rw [e]), e]
theorem mdN_len (D : List Int) (i : Nat) : (mdN D i).length = D.length := by
  cases i with
  | zero => rfl
  | succ i => rw [mdN, partN_len, delL_len, prodL_len]
theorem totN_step (D : List Int) (i : Nat) : addL (if 0 < i then 2 else 1) (totN D i) (mdN D i) = totN D (i + 1) := by
  cases i with
  | zero => rw [if_neg (by omega)]; exact first_eq
  | succ i => rw [if_pos (by omega)]; rfl
theorem mdN_step (D : List Int) (i : Nat) : delL (prodL (mdN D i) D) 1 = mdN D (i + 1) := by
  cases i <;> rfl
theorem mdN_bn {D : List Int} (hl : D.length ≤ 61) (hD : Bn 7 D) (i : Nat) : Bn (20 + 13 * i) (mdN D i) := by
  cases i with
  | zero => exact hD.mono (by omega)
  | succ i => exact (partN_bn (by rw [delL_len, prodL_len]; omega) (bn_del (bn_prod (by omega) hD hD)) hD i).mono (by omega)
theorem cntE_bd {p m : Nat} (hp : p ≤ 97) (hm : m ≤ 60) : (cntE p m).natAbs ≤ 2 ^ 1850 := by
  have l1 := dialL_len p m
  have b1 := dialL_bn (p := p) m hp
  have l2 := side_len (D := dialL p m) (by omega)
  have b2 := side_bn (D := dialL p m) (by omega) (by omega) b1
  have b3 := mid_bn (D := dialL p m) (by omega) b1
  exact ((bn_prod (by rw [prodL_len, l2]; omega) (bn_prod (by omega) b2 b2) b3).mono (by omega)).get m
theorem big_shows {i : Int} (h : i.natAbs ≤ 2 ^ 1850) : (PyData.int i).showable = true ∧ ((PyData.int i).shown).length ≤ 701 := by
  have h2 : i.natAbs < 2 ^ 1900 := Nat.lt_of_le_of_lt h (Nat.pow_lt_pow_right (by decide) (by decide))
  refine ⟨decide_eq_true (Nat.lt_of_lt_of_le (PySem.Flt.log2_lt_of (by decide) h2) (by decide)), ?_⟩
  have e := int_text_length_le10 (k := 700) (by decide) (Nat.lt_of_lt_of_le h2 (by decide +kernel))
  show (Str.ofString (toString i)).length ≤ 701
  rw [PySem.ofString_length]
  exact e
end DR
namespace DR
open PySem PySem.Spec PyProof.Rows L2
def topS (i : Nat) : Stmt := PySem.Challenge.pw_dialroad_k60_counts_from_both_sides.main.body.getD i (.Pass ⟨0, 0, 0, 0⟩)
abbrev s_fewest_turns : Stmt := topS 1
abbrev s_product_of : Stmt := topS 2
abbrev s_sum_of : Stmt := topS 3
abbrev s_delayed : Stmt := topS 4
abbrev s_dial_series : Stmt := topS 5
abbrev s_side_series : Stmt := topS 6
abbrev s_middle_series : Stmt := topS 7
abbrev s_count_effects : Stmt := topS 8
abbrev s__law_pen : Stmt := topS 10
abbrev s__law_draw : Stmt := topS 11
abbrev s__law_pick : Stmt := topS 12
abbrev s__law_cost : Stmt := topS 13
abbrev s__law_joined_counts : Stmt := topS 14
abbrev s__law_later : Stmt := topS 15
abbrev s__law_count : Stmt := topS 16
abbrev s_law : Stmt := topS 17
/-- the built-in names that the texts use are still the built-in ones -/
structure Blt (mg : Str → Option Value) : Prop where
  tuple : mg "tuple" = none
  sorted : mg "sorted" = none
  range : mg "range" = none
  list : mg "list" = none
  len : mg "len" = none
  abs : mg "abs" = none
  repr : mg "repr" = none
  int : mg "int" = none
  bool : mg "bool" = none
  dict : mg "dict" = none
  min : mg "min" = none
  max : mg "max" = none
  zip : mg "zip" = none
  all : mg "all" = none
  isinstance : mg "isinstance" = none
  sum : mg "sum" = none
  any : mg "any" = none
  str : mg "str" = none
  set : mg "set" = none
section
variable {P : Program} {w : World} {K : PySem.W.Frag} {mg : Str → Option Value} {base : Heap}
theorem sc_fewest_turns : FnScope ["prime", "value"] ["prime", "value"] (defScope s_fewest_turns) := ⟨rfl, rfl, rfl, by decide +kernel, rfl, by decide +kernel, by decide +kernel⟩
theorem ok_fewest_turns {f : Addr} {fd : FuncData} (F : Fun K "fewest_turns" "fewest_turns" s_fewest_turns f fd) (B : Blt mg) : FnOk P w K mg base CX0 1 f fd ["prime", "value"] sp_fewest_turns := by
  refine F.ok sc_fewest_turns (fun vs H Q E h => ?_) (fun cdv A outer s H vs Q E hr h => ?_)
  · obtain ⟨p, v, rfl, _⟩ := h
    rfl
  · obtain ⟨p, v, rfl, k⟩ := h
    refine ⟨_, (pss_one (ps_ret (pe_callB (call_min2 rfl) (by rfl) B.min (by decide +kernel) (pa_cons (pv 1) (pa_cons (pe_op op_sub (pv 0) (pv 1)) pa_nil))))), ?_⟩
    exact ⟨_, rfl, _, rfl, _, rfl, p, v, rfl, rfl, v, p - v, rfl, k⟩
theorem sc_product_of : FnScope ["one", "other", "size", "at", "k"] ["one", "other"] (defScope s_product_of) := ⟨rfl, rfl, rfl, by decide +kernel, rfl, by decide +kernel, by decide +kernel⟩
theorem ok_product_of {f : Addr} {fd : FuncData} (F : Fun K "product_of" "product_of" s_product_of f fd) (B : Blt mg) : FnOk P w K mg base CX0 1 f fd ["one", "other"] (sp_product_of K) := by
  refine F.ok sc_product_of (fun vs H Q E h => ?_) (fun cdv A outer s H vs Q E hr h => ?_)
  · obtain ⟨v1, v2, a, b, rfl, _⟩ := h
    rfl
  · obtain ⟨v1, v2, a, b, rfl, ⟨A1, rfl, hA⟩, ⟨B1, rfl, hB⟩, hl, hn, ba, bb, k⟩ := h
    have nd := sc_product_of.nd
    refine ⟨_, (pss_cons (ps_set (i := 2) nd rfl (.inl rfl) (pe_callB call_len_seq (by rfl) B.len (by decide +kernel) (pa_cons (pv 0) pa_nil)))
    (pss_one (ps_ret (pe_lc (own := [("at", 3)]) (by rfl) nd (pi_range1 (by rfl) B.range (pa_cons (pv 2) pa_nil)) (blkOk_by (N := ["one", "other", "size", "at", "k"]) (sc := defScope s_product_of) (own := [("at", 3)]) (by decide +kernel)) (fun _ _ _ _ _ => (pg_name (i := 3) nd rfl (.inr rfl))) (fun _ _ _ _ _ => pts_nil) (fun _ _ _ _ _ => (pe_callB (cr_sumC K rfl rfl) (by rfl) B.sum (by decide +kernel) (pa_cons (pe_lc (own := [("k", 4)]) (by rfl) nd (pi_range1 (by rfl) B.range (pa_cons (pe_op op_add (pv 3) pe_int) pa_nil)) (blkOk_by (N := ["one", "other", "size", "at", "k"]) (sc := { kind := ScopeKind.function, names := [(".0", NameKind.local), ("at", NameKind.cell), ("sum", NameKind.globalImplicit), ("range", NameKind.globalImplicit), ("one", NameKind.cell), ("other", NameKind.cell)], isGenerator := false, isCoroutine := false }) (own := [("k", 4)]) (by decide +kernel)) (fun _ _ _ _ _ => (pg_name (i := 4) nd rfl (.inl rfl))) (fun _ _ _ _ _ => pts_nil) (fun _ _ _ _ _ => (pe_op op_mulW (pe_ix (ix_lC K rfl) (pv 0) (pv 4) (fun _ _ => rfl)) (pe_ix (ix_lC K rfl) (pv 1) (pe_op op_sub (pv 3) (pv 4)) (fun _ _ => rfl))))) pa_nil))))))), ?_⟩
    refine ⟨_, rfl, A1, _, rfl, .inl (SqL.of hA), ?_⟩
    dsimp only [tNext, tSeq, tRet]
    refine lcInt (fun i => cvS a b i) (a.map V.int).length (by rw [List.length_map]; omega) (fun R r => ⟨_, rfl, r⟩) (fun _ => rfl) (fun m hm H2 s2 S r => ?_) (fun D H2 nD s2 hD => ?_)
    · rw [List.length_map] at hm
      dsimp only [tCB, tCons, tNil]
      refine lcInt (fun j => a.getD j 0 * b.getD (m - j) 0) (m + 1) (by omega) (fun R r => ⟨_, rfl, 0 + (m : Int), 1, rfl, rfl, ?_⟩) (fun _ => rfl) (fun j hj H3 s3 S' r' => ?_) (fun D H3 nD s3 hD => ?_)
      · show R [V.int (0 + (m : Int) + 1)] _
        rw [show (0 + (m : Int) + 1) = ((m + 1 : Nat) : Int) by omega]
        exact r
      · have s13 := s2.trans s3
        refine ⟨_, rfl, _, rfl, A1, _, 0 + (j : Int), _, rfl, rfl, SqL.of (s13 _ _ hA), atI_nI (k := j) (by omega) (by omega), ?_⟩
        refine ⟨_, rfl, _, rfl, _, rfl, 0 + (m : Int), 0 + (j : Int), rfl, rfl, B1, _, _, _, rfl, rfl, SqL.of (s13 _ _ hB), atI_nI (k := m - j) (by omega) (by omega), ?_⟩
        exact ⟨_, _, rfl, rfl, wide_mul (ba.lt _) (bb.lt _) (by decide) (by decide) (by decide), r' H3 (Same.refl _)⟩
      · exact ⟨D, _, rfl, SqL.of hD, r H3 s3⟩
    · rw [List.length_map] at hD
      exact k _ H2 s2 ⟨D, rfl, hD⟩
theorem sc_sum_of : FnScope ["one", "other", "factor", "worth", "more"] ["one", "other", "factor"] (defScope s_sum_of) := ⟨rfl, rfl, rfl, by decide +kernel, rfl, by decide +kernel, by decide +kernel⟩
theorem ok_sum_of {f : Addr} {fd : FuncData} (F : Fun K "sum_of" "sum_of" s_sum_of f fd) (B : Blt mg) : FnOk P w K mg base CX0 1 f fd ["one", "other", "factor"] (sp_sum_of K) := by
  refine F.ok sc_sum_of (fun vs H Q E h => ?_) (fun cdv A outer s H vs Q E hr h => ?_)
  · obtain ⟨v1, v2, a, b, fa, rfl, _⟩ := h
    rfl
  · obtain ⟨v1, v2, a, b, fa, rfl, ⟨A1, rfl, hA⟩, ⟨B1, rfl, hB⟩, hl, hn, hf, bb, k⟩ := h
    have nd := sc_sum_of.nd
    refine ⟨_, (pss_one (ps_ret (pe_lc (own := [("worth", 3), ("more", 4)]) (g := gTup K 2 (gCons (gName 3) (gCons (gName 4) gNil))) (by rfl) nd (RZ.pi_zipA (by rfl) B.zip (pa_cons (pv 0) (pa_cons (pv 1) pa_nil))) (blkOk_by (N := ["one", "other", "factor", "worth", "more"]) (sc := defScope s_sum_of) (own := [("worth", 3), ("more", 4)]) (by decide +kernel)) (fun _ _ _ _ _ => (pg_tup rfl (pgs_cons (pg_name (i := 3) nd rfl (.inl rfl) (.inr rfl)) (pgs_cons (pg_name (i := 4) nd rfl (.inl rfl) (.inr rfl)) pgs_nil)))) (fun _ _ _ _ _ => pts_nil) (fun _ _ _ _ _ => (pe_op op_add (pv 3) (pe_op op_mulW (pv 2) (pv 4))))))), ?_⟩
    dsimp only [tNext, tSeq, tRet]
    refine lcZipI (K := K) (fun x y => x + fa * y) (fun R r => ⟨_, rfl, _, rfl, r⟩) (SqL.of hA) (SqL.of hB) hl (by omega) (fun _ _ => rfl) (fun x hx y hy H2 s2 S r => ?_) (fun D H2 nD s2 hD => ?_)
    · exact ⟨_, rfl, _, rfl, _, rfl, _, _, rfl, rfl, wide_mul (a := 2) (Nat.lt_of_le_of_lt hf (by decide)) (Nat.lt_of_le_of_lt (bb y hy) (Nat.pow_lt_pow_right (by decide) (Nat.lt_succ_self _))) (by decide) (by decide) (by decide), _, _, rfl, rfl, r⟩
    · exact k _ H2 s2 ⟨D, rfl, hD⟩
theorem sc_delayed : FnScope ["series", "by"] ["series", "by"] (defScope s_delayed) := ⟨rfl, rfl, rfl, by decide +kernel, rfl, by decide +kernel, by decide +kernel⟩
theorem ok_delayed {f : Addr} {fd : FuncData} (F : Fun K "delayed" "delayed" s_delayed f fd) (B : Blt mg) : FnOk P w K mg base CX0 1 f fd ["series", "by"] (sp_delayed K) := by
  refine F.ok sc_delayed (fun vs H Q E h => ?_) (fun cdv A outer s H vs Q E hr h => ?_)
  · obtain ⟨v, a, d, rfl, _⟩ := h
    rfl
  · obtain ⟨v, a, d, rfl, ⟨A1, rfl, hA⟩, hd, hn, k⟩ := h
    have nd := sc_delayed.nd
    refine ⟨_, (pss_one (ps_ret (pe_slice sl_list (pe_op op_cat (pe_op op_rep (pe_lst (pa_cons pe_int pa_nil)) (pv 1)) (pv 0)) po_none (po_some (pe_callB call_len_seq (by rfl) B.len (by decide +kernel) (pa_cons (pv 0) pa_nil)))))), ?_⟩
    refine ⟨sl_of (show 1 ≤ 1000000 by decide), fun l1 n1 => ?_⟩
    have z1 := same_new n1 (o := HO.lst [V.int 0])
    refine ⟨_, rfl, l1, (d : Int), _, rfl, rfl, upd_same, by omega, by omega, sl_of (show [V.int 0].length * ((d : Int)).toNat ≤ 1000000 by rw [Int.toNat_natCast]; show 1 * d ≤ _; omega), fun l2 n2 => ?_⟩
    have e2 : (List.replicate ((d : Int)).toNat [V.int 0]).flatten = (List.replicate d (0 : Int)).map V.int := by rw [Int.toNat_natCast, rep_zero]
    rw [e2]
    have z2 := same_new n2 (o := HO.lst ((List.replicate d (0 : Int)).map V.int))
    have hA2 := (z1.trans z2) _ _ hA
    refine ⟨_, rfl, l2, A1, _, _, rfl, rfl, upd_same, hA2, sl_of (by rw [List.length_map, List.length_map, List.length_replicate]; omega), fun l3 n3 => ?_⟩
    have z3 := same_new n3 (o := HO.lst ((List.replicate d (0 : Int)).map V.int ++ a.map V.int))
    refine ⟨_, rfl, A1, _, rfl, .inl (SqL.of (z3 _ _ hA2)), ?_⟩
    refine ⟨_, rfl, l3, _, rfl, SqL.of upd_same, fun l4 n4 => ?_⟩
    rw [cut_to _ (by rw [List.length_append, List.length_map]; omega)]
    refine k _ _ (z1.trans (z2.trans (z3.trans (same_new n4)))) ⟨l4, rfl, ?_⟩
    rw [upd_same, delL, ← List.map_append, ← List.map_take, List.length_map]
theorem sc_dial_series : FnScope ["prime", "size", "series", "value", "turns"] ["prime", "size"] (defScope s_dial_series) := ⟨rfl, rfl, rfl, by decide +kernel, rfl, by decide +kernel, by decide +kernel⟩
theorem ok_dial_series {f : Addr} {fd : FuncData} (F : Fun K "dial_series" "dial_series" s_dial_series f fd) (B : Blt mg) (C_fewest_turns : Cal P w K mg base 1 "fewest_turns" sp_fewest_turns) : FnOk P w K mg base CX0 2 f fd ["prime", "size"] (sp_dial_series K) := by
  refine F.ok sc_dial_series (fun vs H Q E h => ?_) (fun cdv A outer s H vs Q E hr h => ?_)
  · obtain ⟨p, m, rfl, _⟩ := h
    rfl
  · obtain ⟨p, m, rfl, hp, hm, k⟩ := h
    have nd := sc_dial_series.nd
    refine ⟨_, (pss_cons (ps_set (i := 2) nd rfl (.inl rfl) (pe_op op_rep (pe_lst (pa_cons pe_int pa_nil)) (pe_op op_add (pv 1) pe_int)))
    (pss_cons (ps_for PassesOwn.never rfl (pi_range1 (by rfl) B.range (pa_cons (pv 0) pa_nil)) (pg_name (i := 3) nd rfl (.inl rfl))
      (pss_cons (ps_set (i := 4) nd rfl (.inl rfl) (pe_c C_fewest_turns hr (by decide) (by rfl) (pa_cons (pv 0) (pa_cons (pv 3) pa_nil))))
    (pss_one (ps_if (pt_cmpR op_le (pv 4) (pv 1) (nomark _))
      (pss_one (ps_augS (pv 2) (pv 4) get_listP pe_int ip_add set_list))
      pss_nil))))
    (pss_one (ps_ret (pv 2))))), ?_⟩
    refine ⟨sl_of (show 1 ≤ 1000000 by decide), fun l1 n1 => ?_⟩
    have z1 := same_new n1 (o := HO.lst [V.int 0])
    refine ⟨_, rfl, (m : Int), 1, rfl, rfl, ?_⟩
    refine ⟨l1, (m : Int) + 1, _, rfl, rfl, upd_same, by omega, by omega, sl_of (show [V.int 0].length * ((m : Int) + 1).toNat ≤ 1000000 by show 1 * _ ≤ _; omega), fun D nD => ?_⟩
    have e2 : (List.replicate ((m : Int) + 1).toNat [V.int 0]).flatten = (dialP p m 0).map V.int := by
      rw [show ((m : Int) + 1).toNat = m + 1 by omega, rep_zero, dialP_zero]
    rw [e2]
    have z2 := same_new nD (o := HO.lst ((dialP p m 0).map V.int))
    have nD0 : H D = none := by
      have := nD
      unfold upd at this
      split at this
      · cases this
      · exact this
    refine ⟨_, rfl, (p : Int), rfl, by omega, by omega, for_range (lo := 0) (n := ((p : Int)).toNat) (fun i σ H2 => ∃ y3 y4, σ = [some (.int (p : Int)), some (.int (m : Int)), some (.ref D), y3, y4] ∧ Same H H2 ∧ H2 D = some (.lst ((dialP p m i).map V.int))) ⟨_, _, rfl, z1.trans z2, upd_same⟩ ?_ ?_⟩
    · rintro i σ H2 hi ⟨y3, y4, rfl, s2, hD⟩
      rw [Int.toNat_natCast] at hi
      refine ⟨_, rfl, _, rfl, (p : Int), 0 + (i : Int), rfl, ?_⟩
      rw [Int.zero_add]
      have h0 := ft_rng (p := (p : Int)) (v := (i : Int)) (by omega) (by omega)
      refine ⟨_, rfl, _, rfl, _, _, rfl, rfl, _, rfl, ?_⟩
      refine ite2 (fun z => ?_) (fun z => ?_)
      · have hle : ft (p : Int) (i : Int) ≤ (m : Int) := of_decide_eq_true z
        have hj : ft (p : Int) (i : Int) = ((ft (p : Int) (i : Int)).toNat : Int) := by omega
        have hlt : (ft (p : Int) (i : Int)).toNat < m + 1 := by omega
        have hst := dialP_in hj hlt
        have hget : ((dialP p m i).map V.int)[(ft (p : Int) (i : Int)).toNat]? = some (.int ((dialP p m i).getD (ft (p : Int) (i : Int)).toNat 0)) := by
          rw [List.getElem?_map, List.getD_eq_getElem?_getD, List.getElem?_eq_getElem (by rw [dialP_len]; exact hlt)]
          rfl
        refine ⟨_, rfl, _, rfl, D, _, (ft (p : Int) (i : Int)).toNat, _, rfl, congrArg V.int hj, SqL.of hD, hget, ?_⟩
        refine ⟨_, _, rfl, rfl, D, _, _, (ft (p : Int) (i : Int)).toNat, rfl, rfl, hD, ?_, ?_⟩
        · unfold ixN
          rw [if_pos h0, if_pos (by rw [List.length_map, dialP_len]; omega)]
        · refine ⟨_, _, rfl, fun x o ex => ?_, ?_⟩
          · rw [upd_ne (ne_of_none ex nD0)]
            exact s2 _ _ ex
          · rw [upd_same, ← hst, List.map_set]
      · have hgt : (m : Int) < ft (p : Int) (i : Int) := by
          have : ¬ (ft (p : Int) (i : Int) ≤ (m : Int)) := fun y => z (decide_eq_true y)
          omega
        refine ⟨_, _, rfl, s2, ?_⟩
        rw [hD, dialP_out hgt]
    · rintro σ H2 ⟨y3, y4, rfl, s2, hD⟩
      rw [Int.toNat_natCast] at hD
      exact ⟨_, rfl, k _ H2 s2 ⟨D, rfl, hD⟩⟩
theorem sc_side_series : FnScope ["dial", "series", "part"] ["dial"] (defScope s_side_series) := ⟨rfl, rfl, rfl, by decide +kernel, rfl, by decide +kernel, by decide +kernel⟩
theorem ok_side_series {f : Addr} {fd : FuncData} (F : Fun K "side_series" "side_series" s_side_series f fd) (B : Blt mg) (C_product_of : Cal P w K mg base 1 "product_of" (sp_product_of K)) (C_sum_of : Cal P w K mg base 1 "sum_of" (sp_sum_of K)) (C_delayed : Cal P w K mg base 1 "delayed" (sp_delayed K)) : FnOk P w K mg base CX0 2 f fd ["dial"] (sp_side_series K) := by
  refine F.ok sc_side_series (fun vs H Q E h => ?_) (fun cdv A outer s H vs Q E hr h => ?_)
  · obtain ⟨v, D, rfl, _⟩ := h
    rfl
  · obtain ⟨v, D, rfl, hv, h1, h9, hb, k⟩ := h
    have nd := sc_side_series.nd
    refine ⟨_, (pss_cons (ps_set (i := 1) nd rfl (.inl rfl) (pe_op op_cat (pe_lst (pa_cons pe_int pa_nil)) (pe_op op_rep (pe_lst (pa_cons pe_int pa_nil)) (pe_op op_sub (pe_callB call_len_seq (by rfl) B.len (by decide +kernel) (pa_cons (pv 0) pa_nil)) pe_int))))
    (pss_cons (ps_set (i := 2) nd rfl (.inl rfl) (pe_c C_delayed hr (by decide) (by rfl) (pa_cons (pe_c C_sum_of hr (by decide) (by rfl) (pa_cons (pv 0) (pa_cons (pv 1) (pa_cons (pe_un un_neg pe_int) pa_nil)))) (pa_cons pe_int pa_nil))))
    (pss_cons (ps_while PassesOwn.never (pt_val (pe_callB (cr_anyI rfl) (by rfl) B.any (by decide +kernel) (pa_cons (pv 2) pa_nil)))
      (pss_cons (ps_set (i := 1) nd rfl (.inl rfl) (pe_c C_sum_of hr (by decide) (by rfl) (pa_cons (pv 1) (pa_cons (pv 2) (pa_cons pe_int pa_nil)))))
    (pss_one (ps_set (i := 2) nd rfl (.inl rfl) (pe_c C_delayed hr (by decide) (by rfl) (pa_cons (pe_c C_product_of hr (by decide) (by rfl) (pa_cons (pv 2) (pa_cons (pv 0) pa_nil))) (pa_cons pe_int pa_nil)))))))
    (pss_one (ps_ret (pv 1)))))), ?_⟩
    have hv0 := hv
    obtain ⟨A1, rfl, hA⟩ := hv0
    refine ⟨sl_of (show 1 ≤ 1000000 by decide), fun l1 n1 => ?_⟩
    have z1 := same_new n1 (o := HO.lst [V.int 1])
    refine ⟨sl_of (show 1 ≤ 1000000 by decide), fun l2 n2 => ?_⟩
    have z2 := same_new n2 (o := HO.lst [V.int 0])
    refine ⟨_, rfl, A1, _, rfl, .inl (SqL.of ((z1.trans z2) _ _ hA)), _, _, rfl, rfl, ?_⟩
    refine ⟨l2, _, _, rfl, rfl, upd_same, by rw [List.length_map]; omega, by rw [List.length_map]; omega, sl_of (show [V.int 0].length * (((D.map V.int).length : Int) - 1).toNat ≤ 1000000 by rw [List.length_map]; show 1 * _ ≤ _; omega), fun l3 n3 => ?_⟩
    have e3 : (List.replicate (((D.map V.int).length : Int) - 1).toNat [V.int 0]).flatten = (List.replicate (D.length - 1) (0 : Int)).map V.int := by
      rw [List.length_map, show ((D.length : Int) - 1).toNat = D.length - 1 by omega, rep_zero]
    rw [e3]
    have z3 := same_new n3 (o := HO.lst ((List.replicate (D.length - 1) (0 : Int)).map V.int))
    refine ⟨l1, l3, _, _, rfl, rfl, z3 _ _ (z2 _ _ upd_same), upd_same, sl_of (by rw [List.length_map, List.length_replicate]; show 1 + _ ≤ _; omega), fun l4 n4 => ?_⟩
    have z4 := same_new n4 (o := HO.lst ([V.int 1] ++ (List.replicate (D.length - 1) (0 : Int)).map V.int))
    have s4 := z1.trans (z2.trans (z3.trans z4))
    have hU : LI (upd (upd (upd (upd H l1 (HO.lst [V.int 1])) l2 (HO.lst [V.int 0])) l3 (HO.lst ((List.replicate (D.length - 1) (0 : Int)).map V.int))) l4 (HO.lst ([V.int 1] ++ (List.replicate (D.length - 1) (0 : Int)).map V.int))) (V.ref l4) (unitL D.length) := ⟨l4, rfl, (upd_same (o := HO.lst ([V.int 1] ++ (List.replicate (D.length - 1) (0 : Int)).map V.int)))⟩
    generalize upd (upd (upd (upd H l1 (HO.lst [V.int 1])) l2 (HO.lst [V.int 0])) l3 (HO.lst ((List.replicate (D.length - 1) (0 : Int)).map V.int))) l4 (HO.lst ([V.int 1] ++ (List.replicate (D.length - 1) (0 : Int)).map V.int)) = H4 at s4 hU ⊢
    have hl1 : D.length = (unitL D.length).length := by rw [unitL_len h1]
    refine ⟨_, rfl, _, rfl, 1, rfl, _, _, D, unitL D.length, -1, rfl, hv.same s4, hU, hl1, by omega, by decide, (bn_unit _).mono (by omega), fun u5 H5 s5 h5 => ?_⟩
    have ln : (addL (-1) D (unitL D.length)).length = D.length := addL_len hl1
    refine ⟨u5, _, 2, rfl, h5, by omega, by omega, fun u6 H6 s6 h6 => ?_⟩
    have s46 := s5.trans s6
    have eP : (delL (addL (-1) D (unitL D.length)) 2).length = D.length := by rw [delL_len, ln]
    have bP : Bn 9 (delL (addL (-1) D (unitL D.length)) 2) := bn_del (bn_add (by decide) hb ((bn_unit _).mono (by omega)))
    have bS : Bn 9 (unitL D.length) := (bn_unit _).mono (by omega)
    have hS0 : (unitL D.length).length = (delL (addL (-1) D (unitL D.length)) 2).length := by rw [eP, ← hl1]
    have lw0 : Lw 2 (delL (addL (-1) D (unitL D.length)) 2) := by
      have := lw_del (n := 0) (d := 2) (a := addL (-1) D (unitL D.length)) (fun i hi => absurd hi (Nat.not_lt_zero _))
      exact this
    have k' : ∀ (u : V) (H' : Hp), Same H H' → LI H' u (sumN 1 (unitL D.length) (delL (addL (-1) D (unitL D.length)) 2) D 2 ((D.length - 1) / 2)) → Q u H' := k
    have last : Zr (partN (delL (addL (-1) D (unitL D.length)) 2) D 2 ((D.length - 1) / 2)) := partN_zr lw0 (by rw [eP]; omega)
    have hU6 := hU.same s46
    have hD6 := hv.same (s4.trans s46)
    have s06 := s4.trans s46
    generalize delL (addL (-1) D (unitL D.length)) 2 = P0 at h6 eP bP hS0 lw0 last k' ⊢
    generalize unitL D.length = S0 at hU6 bS hS0 k' ⊢
    have hln : ∀ j, (partN P0 D 2 j).length = D.length := fun j => by rw [partN_len, eP]
    have hls : ∀ j, (sumN 1 S0 P0 D 2 j).length = D.length := fun j => by rw [sumN_len hS0, eP]
    refine ⟨fun r σ H2 => ∃ (j : Nat) (u v' : V), r + j = (D.length - 1) / 2 ∧ σ = [some (.ref A1), some u, some v'] ∧ Same H6 H2 ∧ LI H2 u (sumN 1 S0 P0 D 2 j) ∧ LI H2 v' (partN P0 D 2 j), ⟨(D.length - 1) / 2, 0, _, _, rfl, rfl, Same.refl _, hU6, h6⟩, ?_⟩
    rintro r σ H2 ⟨j, u, v', hrj, rfl, s2, hu, hv'⟩
    have bp := partN_bn (d := 2) (by omega : P0.length ≤ 64) bP hb j
    have hv2 := hv'
    obtain ⟨a', rfl, ha'⟩ := hv2
    refine ⟨_, rfl, a', _, rfl, SqL.of ha', _, rfl, ?_⟩
    cases hz : ((partN P0 D 2 j).map fun x => x != 0).any id with
    | false =>
      rw [if_neg (by decide)]
      have st := sumN_stable (f := 1) hS0 (zr_any.mp hz) r
      rw [show j + r = (D.length - 1) / 2 by omega] at st
      rw [← st] at hu
      exact ⟨_, rfl, k' _ _ (s06.trans s2) hu⟩
    | true =>
      rw [if_pos rfl]
      have hr0 : 0 < r := by
        rcases Nat.eq_zero_or_pos r with e | e
        · have hj : j = (D.length - 1) / 2 := by omega
          rw [hj, zr_any.mpr last] at hz
          cases hz
        · exact e
      refine ⟨fun σ' H' => ∃ (j : Nat) (u v' : V), r - 1 + j = (D.length - 1) / 2 ∧ σ' = [some (.ref A1), some u, some v'] ∧ Same H6 H' ∧ LI H' u (sumN 1 S0 P0 D 2 j) ∧ LI H' v' (partN P0 D 2 j), fun σ' H' h => ⟨r - 1, by omega, h⟩, ?_⟩
      refine ⟨_, rfl, _, rfl, u, _, _, _, 1, rfl, hu, hv', by rw [hls, hln], by rw [hls]; omega, by decide, bp.mono (by omega), fun u7 H7 s7 h7 => ?_⟩
      refine ⟨_, rfl, _, rfl, _, _, _, D, rfl, hv'.same s7, hD6.same (s2.trans s7), by rw [hln], by rw [hln]; omega, bp.mono (by omega), hb.mono (by omega), fun u8 H8 s8 h8 => ?_⟩
      refine ⟨u8, _, 2, rfl, h8, by omega, by rw [prodL_len, hln]; omega, fun u9 H9 s9 h9' => ?_⟩
      exact ⟨j + 1, _, _, by omega, rfl, s2.trans (s7.trans (s8.trans s9)), h7.same (s8.trans s9), h9'⟩
theorem sc_middle_series : FnScope ["dial", "series", "part"] ["dial"] (defScope s_middle_series) := ⟨rfl, rfl, rfl, by decide +kernel, rfl, by decide +kernel, by decide +kernel⟩
theorem ok_middle_series {f : Addr} {fd : FuncData} (F : Fun K "middle_series" "middle_series" s_middle_series f fd) (B : Blt mg) (C_product_of : Cal P w K mg base 1 "product_of" (sp_product_of K)) (C_sum_of : Cal P w K mg base 1 "sum_of" (sp_sum_of K)) (C_delayed : Cal P w K mg base 1 "delayed" (sp_delayed K)) : FnOk P w K mg base CX0 2 f fd ["dial"] (sp_middle_series K) := by
  refine F.ok sc_middle_series (fun vs H Q E h => ?_) (fun cdv A outer s H vs Q E hr h => ?_)
  · obtain ⟨v, D, rfl, _⟩ := h
    rfl
  · obtain ⟨v, D, rfl, hv, h1, h9, hb, k⟩ := h
    have nd := sc_middle_series.nd
    refine ⟨_, (pss_cons (ps_set (i := 1) nd rfl (.inl rfl) (pv 0))
    (pss_cons (ps_set (i := 2) nd rfl (.inl rfl) (pe_c C_delayed hr (by decide) (by rfl) (pa_cons (pe_c C_product_of hr (by decide) (by rfl) (pa_cons (pv 0) (pa_cons (pv 0) pa_nil))) (pa_cons pe_int pa_nil))))
    (pss_cons (ps_while PassesOwn.never (pt_val (pe_callB (cr_anyI rfl) (by rfl) B.any (by decide +kernel) (pa_cons (pv 2) pa_nil)))
      (pss_cons (ps_set (i := 1) nd rfl (.inl rfl) (pe_c C_sum_of hr (by decide) (by rfl) (pa_cons (pv 1) (pa_cons (pv 2) (pa_cons pe_int pa_nil)))))
    (pss_one (ps_set (i := 2) nd rfl (.inl rfl) (pe_c C_delayed hr (by decide) (by rfl) (pa_cons (pe_c C_product_of hr (by decide) (by rfl) (pa_cons (pv 2) (pa_cons (pv 0) pa_nil))) (pa_cons pe_int pa_nil)))))))
    (pss_one (ps_ret (pv 1)))))), ?_⟩
    have hv0 := hv
    obtain ⟨A1, rfl, hA⟩ := hv0
    refine ⟨_, rfl, ?_⟩
    refine ⟨_, rfl, _, rfl, _, _, D, D, rfl, hv, hv, rfl, by omega, hb.mono (by omega), hb.mono (by omega), fun u5 H5 s5 h5 => ?_⟩
    refine ⟨u5, _, 1, rfl, h5, by omega, by rw [prodL_len]; omega, fun u6 H6 s6 h6 => ?_⟩
    have s06 := s5.trans s6
    have eP : (delL (prodL D D) 1).length = D.length := by rw [delL_len, prodL_len]
    have bP : Bn 20 (delL (prodL D D) 1) := bn_del (bn_prod (by omega) hb hb)
    have hS0 : D.length = (delL (prodL D D) 1).length := by rw [eP]
    have lw0 : Lw 1 (delL (prodL D D) 1) := by
      have := lw_del (n := 0) (d := 1) (a := prodL D D) (fun i hi => absurd hi (Nat.not_lt_zero _))
      exact this
    have k' : ∀ (u : V) (H' : Hp), Same H H' → LI H' u (sumN 2 D (delL (prodL D D) 1) D 1 (D.length - 1)) → Q u H' := k
    have last : Zr (partN (delL (prodL D D) 1) D 1 (D.length - 1)) := partN_zr lw0 (by rw [eP]; omega)
    have hU6 := hv.same s06
    have hD6 := hU6
    generalize delL (prodL D D) 1 = P0 at h6 eP bP hS0 lw0 last k' ⊢
    have hln : ∀ j, (partN P0 D 1 j).length = D.length := fun j => by rw [partN_len, eP]
    have hls : ∀ j, (sumN 2 D P0 D 1 j).length = D.length := fun j => by rw [sumN_len hS0, eP]
    refine ⟨fun r σ H2 => ∃ (j : Nat) (u v' : V), r + j = D.length - 1 ∧ σ = [some (.ref A1), some u, some v'] ∧ Same H6 H2 ∧ LI H2 u (sumN 2 D P0 D 1 j) ∧ LI H2 v' (partN P0 D 1 j), ⟨D.length - 1, 0, _, _, rfl, rfl, Same.refl _, hU6, h6⟩, ?_⟩
    rintro r σ H2 ⟨j, u, v', hrj, rfl, s2, hu, hv'⟩
    have bp := partN_bn (d := 1) (by omega : P0.length ≤ 64) bP hb j
    have hv2 := hv'
    obtain ⟨a', rfl, ha'⟩ := hv2
    refine ⟨_, rfl, a', _, rfl, SqL.of ha', _, rfl, ?_⟩
    cases hz : ((partN P0 D 1 j).map fun x => x != 0).any id with
    | false =>
      rw [if_neg (by decide)]
      have st := sumN_stable (f := 2) hS0 (zr_any.mp hz) r
      rw [show j + r = D.length - 1 by omega] at st
      rw [← st] at hu
      exact ⟨_, rfl, k' _ _ (s06.trans s2) hu⟩
    | true =>
      rw [if_pos rfl]
      have hr0 : 0 < r := by
        rcases Nat.eq_zero_or_pos r with e | e
        · have hj : j = D.length - 1 := by omega
          rw [hj, zr_any.mpr last] at hz
          cases hz
        · exact e
      refine ⟨fun σ' H' => ∃ (j : Nat) (u v' : V), r - 1 + j = D.length - 1 ∧ σ' = [some (.ref A1), some u, some v'] ∧ Same H6 H' ∧ LI H' u (sumN 2 D P0 D 1 j) ∧ LI H' v' (partN P0 D 1 j), fun σ' H' h => ⟨r - 1, by omega, h⟩, ?_⟩
      refine ⟨_, rfl, _, rfl, u, _, _, _, 2, rfl, hu, hv', by rw [hls, hln], by rw [hls]; omega, by decide, bp.mono (by omega), fun u7 H7 s7 h7 => ?_⟩
      refine ⟨_, rfl, _, rfl, _, _, _, D, rfl, hv'.same s7, hD6.same (s2.trans s7), by rw [hln], by rw [hln]; omega, bp.mono (by omega), hb.mono (by omega), fun u8 H8 s8 h8 => ?_⟩
      refine ⟨u8, _, 1, rfl, h8, by omega, by rw [prodL_len, hln]; omega, fun u9 H9 s9 h9' => ?_⟩
      exact ⟨j + 1, _, _, by omega, rfl, s2.trans (s7.trans (s8.trans s9)), h7.same (s8.trans s9), h9'⟩
theorem sc_count_effects : FnScope ["prime", "size", "dial", "side"] ["prime", "size"] (defScope s_count_effects) := ⟨rfl, rfl, rfl, by decide +kernel, rfl, by decide +kernel, by decide +kernel⟩
theorem ok_count_effects {f : Addr} {fd : FuncData} (F : Fun K "count_effects" "count_effects" s_count_effects f fd) (B : Blt mg) (C_dial_series : Cal P w K mg base 2 "dial_series" (sp_dial_series K)) (C_side_series : Cal P w K mg base 2 "side_series" (sp_side_series K)) (C_product_of : Cal P w K mg base 1 "product_of" (sp_product_of K)) (C_middle_series : Cal P w K mg base 2 "middle_series" (sp_middle_series K)) : FnOk P w K mg base CX0 3 f fd ["prime", "size"] (sp_count_effects K) := by
  refine F.ok sc_count_effects (fun vs H Q E h => ?_) (fun cdv A outer s H vs Q E hr h => ?_)
  · obtain ⟨p, m, rfl, _⟩ := h
    rfl
  · obtain ⟨p, m, rfl, hp, hm, k⟩ := h
    have nd := sc_count_effects.nd
    refine ⟨_, (pss_cons (ps_if (pt_cmpR op_lt (pv 1) pe_int (nomark _))
      (pss_one (ps_ret pe_int))
      pss_nil)
    (pss_cons (ps_set (i := 2) nd rfl (.inl rfl) (pe_c C_dial_series hr (by decide) (by rfl) (pa_cons (pv 0) (pa_cons (pv 1) pa_nil))))
    (pss_cons (ps_set (i := 3) nd rfl (.inl rfl) (pe_c C_side_series hr (by decide) (by rfl) (pa_cons (pv 2) pa_nil)))
    (pss_one (ps_ret (pe_ix ix_list (pe_c C_product_of hr (by decide) (by rfl) (pa_cons (pe_c C_product_of hr (by decide) (by rfl) (pa_cons (pv 3) (pa_cons (pv 3) pa_nil))) (pa_cons (pe_c C_middle_series hr (by decide) (by rfl) (pa_cons (pv 2) pa_nil)) pa_nil))) (pv 1) (fun _ _ => rfl))))))), ?_⟩
    have l1 : (dialL p m).length = m + 1 := dialL_len p m
    have b1 := dialL_bn (p := p) m hp
    refine ⟨_, rfl, (m : Int), 0, rfl, rfl, _, rfl, iteZ (by omega) ?_⟩
    refine ⟨_, rfl, _, rfl, p, m, rfl, hp, hm, fun u1 H1 s1 h1 => ?_⟩
    refine ⟨_, rfl, u1, _, rfl, h1, by omega, by omega, b1, fun u2 H2 s2 h2 => ?_⟩
    have l2 := side_len (D := dialL p m) (by omega)
    have b2 := side_bn (by omega) (by omega) b1
    refine ⟨_, rfl, _, rfl, u2, u2, _, _, rfl, h2, h2, rfl, by omega, b2.mono (by omega), b2.mono (by omega), fun u3 H3 s3 h3 => ?_⟩
    refine ⟨_, rfl, u1, _, rfl, h1.same (s2.trans s3), by omega, by omega, b1, fun u4 H4 s4 h4 => ?_⟩
    have l3 : (prodL (sideL (dialL p m)) (sideL (dialL p m))).length = m + 1 := by rw [prodL_len, l2, l1]
    refine ⟨u3, u4, _, _, rfl, h3.same s4, h4, by rw [l3, mid_len, l1], by omega, (bn_prod (by omega) b2 b2).mono (by omega), (mid_bn (by omega) b1).mono (by omega), fun u5 H5 s5 h5 => ?_⟩
    obtain ⟨a5, rfl, ha5⟩ := h5
    refine ⟨_, rfl, a5, _, (m : Int), _, rfl, rfl, SqL.of ha5, atI_nI (k := m) rfl (by rw [prodL_len, l3]; omega), ?_⟩
    exact k H5 (s1.trans (s2.trans (s3.trans (s4.trans s5))))
theorem sc__law_pen : FnScope ["_law_script"] ["_law_script"] (defScope s__law_pen) := ⟨rfl, rfl, rfl, by decide +kernel, rfl, by decide +kernel, by decide +kernel⟩
theorem ok__law_pen {f : Addr} {fd : FuncData} (F : Fun K "_law_pen" "_law_pen" s__law_pen f fd) (B : Blt mg) : FnOk P w K mg base CX0 1 f fd ["_law_script"] (sp__law_pen K) := by
  refine F.ok sc__law_pen (fun vs H Q E h => ?_) (fun cdv A outer s H vs Q E hr h => ?_)
  · obtain ⟨a, ns, rfl, _⟩ := h
    rfl
  · obtain ⟨a, ns, rfl, hS, k⟩ := h
    have nd := sc__law_pen.nd
    refine ⟨_, (pss_one (ps_ret (pe_disp (pps_cons pe_str (pe_callTy call_list_of (by rfl) B.list (by decide +kernel) (pa_cons (pe_slice sl_list (pv 0) po_none (po_some pe_int)) pa_nil)) (pps_cons pe_str pe_int (pps_cons pe_str pe_int pps_nil))) (by rfl) (by rfl) (fun z => by cases z) (by decide)))), ?_⟩
    intro p np
    have s1 : Same H (upd H p (.dK [])) := same_new np
    refine ⟨_, rfl, 63, rfl, a, _, rfl, s1.seq hS, fun q nq => ?_⟩
    have nqp : p ≠ q := ne_of_none upd_same nq
    refine ⟨q, _, rfl, .inl (SqL.of upd_same), fun c nc => ?_⟩
    have npc : p ≠ c := ne_of_none (show upd (upd H p (.dK [])) q _ p = some (.dK []) by rw [upd_ne nqp, upd_same]) nc
    have s2 : Same H (upd (upd H p (.dK [])) q (.lst (cutV (ns.map V.int) none (some 63)))) := s1.trans (same_new nq)
    refine ⟨?_, penKv c 0 0, rfl, by show 3 ≤ 15; decide, ?_⟩
    · rw [upd_ne npc, upd_ne nqp, upd_same]
    · rw [pen_merge]
      obtain ⟨ms, hms⟩ : ∃ ms : List Int, cutV (ns.map V.int) none (some 63) = ms.map V.int := by
        unfold cutV
        rw [← List.map_drop, ← List.map_take]
        exact ⟨_, rfl⟩
      refine k p c _ np (same_mut (s2.trans (same_new nc)) np) ⟨ms, 0, 0, upd_same, ?_, by omega, by omega⟩
      rw [upd_ne npc.symm, upd_same, hms]
theorem sc__law_draw : FnScope ["_law_pen_here", "_law_many", "_law_digit", "_law_used", "_law_cell", "_law_blend"] ["_law_pen_here", "_law_many"] (defScope s__law_draw) := ⟨rfl, rfl, rfl, by decide +kernel, rfl, by decide +kernel, by decide +kernel⟩
theorem ints_shaped (ns : List Int) : SeqAt.shaped (.list (ns.map PyData.int)) = true := by
  have : PyData.canLayAll0 (ns.map PyData.int) = true ∧ PyData.depthAll (ns.map PyData.int) = 0 := by
    induction ns with
    | nil => exact ⟨rfl, rfl⟩
    | cons n r ih =>
      refine ⟨?_, ?_⟩
      · show (true && PyData.canLayAll0 (r.map PyData.int)) = true
        rw [ih.1]
        rfl
      · show max 0 (PyData.depthAll (r.map PyData.int)) = 0
        rw [ih.2]
        rfl
  show (PyData.canLayAll0 (ns.map PyData.int) && decide (PyData.depthAll (ns.map PyData.int) + 1 ≤ 64)) = true
  rw [this.1, this.2]
  rfl
theorem ints_dpAll {H : Hp} : ∀ ns : List Int, DpAll K H (ns.map V.int) (ns.map PyData.int)
  | [] => .nil
  | n :: r => .cons (.int n) (ints_dpAll r)
theorem dg_left {H : Hp} {p c : Addr} {u l : Int} (h : H p = some (.dK (penKv c u l))) : DGet H p (.str "left") (some (.int l)) := by
  have := DGet.k (k := (Sum.inr ("left" : Str) : Key)) h
  rw [pen_left] at this
  exact this
theorem dg_used {H : Hp} {p c : Addr} {u l : Int} (h : H p = some (.dK (penKv c u l))) : DGet H p (.str "used") (some (.int u)) := by
  have := DGet.k (k := (Sum.inr ("used" : Str) : Key)) h
  rw [pen_used] at this
  exact this
theorem dg_cells {H : Hp} {p c : Addr} {u l : Int} (h : H p = some (.dK (penKv c u l))) : DGet H p (.str "cells") (some (.ref c)) := by
  have := DGet.k (k := (Sum.inr ("cells" : Str) : Key)) h
  rw [pen_cells] at this
  exact this
theorem dp_left {H : Hp} {p c : Addr} {u l : Int} (x : Int) (h : H p = some (.dK (penKv c u l))) : DPut H p (.str "left") (.int x) (upd H p (.dK (penKv c u x))) := by
  have := DPut.k (k := (Sum.inr ("left" : Str) : Key)) (v := .int x) h (sl_lt (show 3 ≤ 1000000 by decide))
  rw [pen_setL] at this
  exact this
theorem dp_used {H : Hp} {p c : Addr} {u l : Int} (x : Int) (h : H p = some (.dK (penKv c u l))) : DPut H p (.str "used") (.int x) (upd H p (.dK (penKv c x l))) := by
  have := DPut.k (k := (Sum.inr ("used" : Str) : Key)) (v := .int x) h (sl_lt (show 3 ≤ 1000000 by decide))
  rw [pen_setU] at this
  exact this
theorem atI_mod {ns : List Int} (u : Int) (h : 0 < ns.length) : ∃ z, atI (ns.map V.int) (u % ((ns.map V.int).length : Int)) = some (.int z) := by
  rw [List.length_map]
  have h1 := Int.emod_nonneg u (show (ns.length : Int) ≠ 0 by omega)
  have h2 := Int.emod_lt_of_pos u (show (0 : Int) < (ns.length : Int) by omega)
  obtain ⟨j, hj⟩ : ∃ j : Nat, u % (ns.length : Int) = (j : Int) := ⟨(u % (ns.length : Int)).toNat, by omega⟩
  rw [hj]
  have hlt : j < ns.length := by omega
  refine ⟨ns[j], atI_nat ?_⟩
  rw [List.getElem?_map, List.getElem?_eq_getElem hlt]
  rfl
theorem cm_197 (x j : Int) : CMul (x % 4294967197) j := .inl ⟨by have := Int.emod_nonneg x (show (4294967197 : Int) ≠ 0 by decide); omega, by have := Int.emod_lt_of_pos x (show (0 : Int) < 4294967197 by decide); omega⟩
theorem cm_189 (x j : Int) : CMul (x % 4294967189) j := .inl ⟨by have := Int.emod_nonneg x (show (4294967189 : Int) ≠ 0 by decide); omega, by have := Int.emod_lt_of_pos x (show (0 : Int) < 4294967189 by decide); omega⟩
theorem ok__law_draw {f : Addr} {fd : FuncData} (F : Fun K "_law_draw" "_law_draw" s__law_draw f fd) (B : Blt mg) : FnOk P w K mg base CX0 1 f fd ["_law_pen_here", "_law_many"] sp__law_draw := by
  refine F.ok sc__law_draw (fun vs H Q E h => ?_) (fun cdv A outer s H vs Q E hr h => ?_)
  · obtain ⟨p, c, many, n, rfl, _⟩ := h
    rfl
  · obtain ⟨p, c, many, n, rfl, hm, hm2, ⟨ns, u, l, h1, h2, hu0, hun⟩, hn, k⟩ := h
    have hu := hu_of hr
    have hu2 := hr.units
    have nd := sc__law_draw.nd
    have npc : p ≠ c := ne_of h1 h2 (by intro z; cases z)
    refine ⟨_, (pss_cons (ps_if (pt_cmpR op_gt (pe_dget hu (pv 0) pe_str (fun _ _ => rfl)) pe_int (nomark _))
      (pss_cons (ps_set (i := 2) nd rfl (.inl rfl) (pe_op op_mod (pe_dget hu (pv 0) pe_str (fun _ _ => rfl)) (pv 1)))
    (pss_cons (ps_dput hu (pv 0) pe_str (pe_op op_fdivW (pe_dget hu (pv 0) pe_str (fun _ _ => rfl)) (pv 1)) rfl)
    (pss_one (ps_ret (pv 2)))))
      pss_nil)
    (pss_cons (ps_set (i := 3) nd rfl (.inl rfl) (pe_dget hu (pv 0) pe_str (fun _ _ => rfl)))
    (pss_cons (ps_dput hu (pv 0) pe_str (pe_op op_add (pv 3) pe_int) rfl)
    (pss_cons (ps_set (i := 4) nd rfl (.inl rfl) (pe_op op_add (pe_op op_mul pe_int (pv 3)) pe_int))
    (pss_cons (ps_if (pt_cmpR (op_neD hu2) (pe_dget hu (pv 0) pe_str (fun _ _ => rfl)) (pe_lst pa_nil) (nomark _))
      (pss_one (ps_set (i := 4) nd rfl (.inl rfl) (pe_ix ix_list (pe_dget hu (pv 0) pe_str (fun _ _ => rfl)) (pe_op op_mod (pv 3) (pe_callB call_len_seq (by rfl) B.len (by decide +kernel) (pa_cons (pe_dget hu (pv 0) pe_str (fun _ _ => rfl)) pa_nil))) (fun _ _ => rfl))))
      pss_nil)
    (pss_cons (ps_if (PW.pt (pw_and (pt_cmpR op_lt (pv 3) (pe_callB call_len_seq (by rfl) B.len (by decide +kernel) (pa_cons (pe_dget hu (pv 0) pe_str (fun _ _ => rfl)) pa_nil)) (nomark _)) (pw_and1 (pt_cmpR op_ge (pe_callB call_abs (by rfl) B.abs (by decide +kernel) (pa_cons (pv 4) pa_nil)) (pe_op op_pow pe_int pe_int) (nomark _)))))
      (pss_cons (ps_dput hu (pv 0) pe_str (pe_op op_fdivW (pe_op op_sub (pe_callB call_abs (by rfl) B.abs (by decide +kernel) (pa_cons (pv 4) pa_nil)) (pe_op op_pow pe_int pe_int)) (pv 1)) rfl)
    (pss_one (ps_ret (pe_op op_mod (pe_op op_sub (pe_callB call_abs (by rfl) B.abs (by decide +kernel) (pa_cons (pv 4) pa_nil)) (pe_op op_pow pe_int pe_int)) (pv 1)))))
      pss_nil)
    (pss_cons (ps_set (i := 5) nd rfl (.inl rfl) (pe_op op_add (pe_op op_mul (pe_op op_mod (pv 4) pe_int) pe_int) (pe_op op_mul (pe_op op_mul pe_int (pv 3)) (pv 3))))
    (pss_cons (ps_set (i := 5) nd rfl (.inl rfl) (pe_op op_mod (pe_op op_add (pe_op op_add (pv 5) (pe_op op_mul pe_int (pv 3))) pe_int) pe_int))
    (pss_cons (ps_set (i := 5) nd rfl (.inl rfl) (pe_op op_mod (pe_op op_add (pe_op op_add (pe_op op_add (pe_op op_mul (pv 5) (pv 5)) (pe_op op_mul pe_int (pv 5))) (pe_op op_mul pe_int (pv 3))) pe_int) pe_int))
    (pss_one (ps_ret (pe_op op_mod (pe_op op_fdiv (pe_op op_mod (pe_op op_mul (pv 5) (pe_op op_add (pv 5) pe_int)) pe_int) pe_int) (pv 1))))))))))))), ?_⟩
    have wd : ∀ i : Int, CDivW i many := fun i => wide_div hm hm2 (by decide) (by decide)
    have rng : ∀ i : Int, 0 ≤ i % many ∧ i % many < many := fun i => ⟨Int.emod_nonneg i (by omega), Int.emod_lt_of_pos i hm⟩
    refine ⟨_, rfl, p, _, rfl, dg_left h1, _, _, rfl, rfl, _, rfl, ?_⟩
    refine ite2 (fun _ => ?_) (fun _ => ?_)
    · refine ⟨_, rfl, p, _, rfl, dg_left h1, _, rfl, l, many, rfl, rfl, hm, ?_⟩
      refine ⟨_, rfl, p, _, rfl, dg_left h1, _, rfl, l, many, rfl, rfl, wd _, _, rfl, p, _, rfl, dp_left _ h1, _, rfl, ?_⟩
      exact k _ _ (rng l).1 (rng l).2 (Kp.refl p H).upd ⟨ns, u, _, upd_same, by rw [upd_ne npc.symm]; exact h2, hu0, by omega⟩
    · have g1 : upd H p (.dK (penKv c (u + 1) l)) p = some (.dK (penKv c (u + 1) l)) := upd_same
      have g2 : upd H p (.dK (penKv c (u + 1) l)) c = some (.lst (ns.map V.int)) := by
        rw [upd_ne npc.symm]
        exact h2
      refine ⟨_, rfl, p, _, rfl, dg_used h1, _, rfl, u, 1, rfl, rfl, _, rfl, p, _, rfl, dp_used (u + 1) h1, ?_⟩
      refine ⟨_, rfl, 29, u, rfl, rfl, .inl ⟨by decide, by decide⟩, _, 11, rfl, rfl, ?_⟩
      refine ⟨_, rfl, p, _, rfl, dg_cells g1, Nat.zero_le _, fun q nq => ?_⟩
      have e1 : upd (upd H p (.dK (penKv c (u + 1) l))) q (.lst []) p = some (.dK (penKv c (u + 1) l)) := by
        rw [upd_ne (ne_of_none g1 nq)]
        exact g1
      have e2 : upd (upd H p (.dK (penKv c (u + 1) l))) q (.lst []) c = some (.lst (ns.map V.int)) := by
        rw [upd_ne (ne_of_none g2 nq)]
        exact g2
      have kq : Kp p H (upd (upd H p (.dK (penKv c (u + 1) l))) q (.lst [])) := (Kp.refl p H).upd.trans (Same.kp (same_new nq))
      have e3 : upd (upd H p (.dK (penKv c (u + 1) l))) q (.lst []) q = some (.lst []) := upd_same
      generalize upd (upd H p (.dK (penKv c (u + 1) l))) q (.lst []) = H1 at e1 e2 e3 kq ⊢
      have hpos : (!PyData.eqv (.list (ns.map PyData.int)) (.list [])) = true → 0 < ns.length := by
        cases ns with
        | nil => exact fun z => absurd z (by decide)
        | cons _ _ => exact fun _ => Nat.succ_pos _
      refine ⟨.list (ns.map PyData.int), .list [], .lst (SqL.of e2) (ints_dpAll ns), .lst (SqL.of e3) .nil, ints_shaped ns, ints_shaped [], _, rfl, ?_⟩
      refine ite2 (fun z => ?_) (fun _ => ?_)
      · obtain ⟨v, hv⟩ := atI_mod u (hpos z)
        refine ⟨_, rfl, p, _, rfl, dg_cells e1, _, rfl, _, rfl, p, _, rfl, dg_cells e1, c, _, rfl, .inl (SqL.of e2), u, _, rfl, rfl, (by rw [List.length_map]; have := hpos z; omega), c, _, _, _, rfl, rfl, SqL.of e2, hv, ?_⟩
        generalize v = cell
        refine ⟨_, rfl, _, rfl, p, _, rfl, dg_cells e1, c, _, rfl, .inl (SqL.of e2), u, _, rfl, rfl, _, rfl, ?_⟩
        refine ite2 (fun _ => ?_) (fun _ => ?_)
        · refine ⟨_, rfl, cell, rfl, 10, 18, rfl, rfl, ⟨by decide, by decide, by decide⟩, _, _, rfl, rfl, _, rfl, ?_⟩
          refine ite2 (fun _ => ?_) (fun _ => ?_)
          · refine ⟨_, rfl, cell, rfl, 10, 18, rfl, rfl, ⟨by decide, by decide, by decide⟩, _, _, rfl, rfl, _, rfl, _, many, rfl, rfl, wd _, _, rfl, p, _, rfl, dp_left _ e1, ?_⟩
            refine ⟨_, rfl, cell, rfl, 10, 18, rfl, rfl, ⟨by decide, by decide, by decide⟩, _, _, rfl, rfl, _, rfl, _, many, rfl, rfl, hm, ?_⟩
            exact k _ _ (rng _).1 (rng _).2 kq.upd ⟨ns, u + 1, _, upd_same, by rw [upd_ne npc.symm]; exact e2, by omega, by omega⟩
          · refine ⟨_, rfl, cell, 4294967231, rfl, rfl, (show (0 : Int) < 4294967231 by decide), _, 1664525, rfl, rfl, .inr ⟨by decide, by decide⟩, _, rfl, 24593, u, rfl, rfl, .inl ⟨by decide, by decide⟩, _, rfl, 24593 * u, u, rfl, rfl, .inr ⟨by omega, by omega⟩, _, _, rfl, rfl, ?_⟩
            refine ⟨_, rfl, _, rfl, 196613, u, rfl, rfl, .inl ⟨by decide, by decide⟩, _, _, rfl, rfl, _, 19, rfl, rfl, _, _, rfl, rfl, (show (0 : Int) < 4294967197 by decide), ?_⟩
            refine ⟨_, rfl, _, rfl, _, _, rfl, rfl, cm_197 _ _, _, rfl, 12582917, _, rfl, rfl, .inl ⟨by decide, by decide⟩, _, _, rfl, rfl, _, rfl, 7, u, rfl, rfl, .inl ⟨by decide, by decide⟩, _, _, rfl, rfl, _, 3, rfl, rfl, _, _, rfl, rfl, (show (0 : Int) < 4294967189 by decide), ?_⟩
            refine ⟨_, rfl, _, rfl, _, 25165843, rfl, rfl, _, _, rfl, rfl, cm_189 _ _, _, _, rfl, rfl, (show (0 : Int) < 4294967291 by decide), _, 64, rfl, rfl, ⟨by decide, by decide⟩, _, rfl, _, many, rfl, rfl, hm, ?_⟩
            exact k _ _ (rng _).1 (rng _).2 kq ⟨ns, u + 1, _, e1, e2, by omega, by omega⟩
        · refine iteF ?_
          refine ⟨_, rfl, cell, 4294967231, rfl, rfl, (show (0 : Int) < 4294967231 by decide), _, 1664525, rfl, rfl, .inr ⟨by decide, by decide⟩, _, rfl, 24593, u, rfl, rfl, .inl ⟨by decide, by decide⟩, _, rfl, 24593 * u, u, rfl, rfl, .inr ⟨by omega, by omega⟩, _, _, rfl, rfl, ?_⟩
          refine ⟨_, rfl, _, rfl, 196613, u, rfl, rfl, .inl ⟨by decide, by decide⟩, _, _, rfl, rfl, _, 19, rfl, rfl, _, _, rfl, rfl, (show (0 : Int) < 4294967197 by decide), ?_⟩
          refine ⟨_, rfl, _, rfl, _, _, rfl, rfl, cm_197 _ _, _, rfl, 12582917, _, rfl, rfl, .inl ⟨by decide, by decide⟩, _, _, rfl, rfl, _, rfl, 7, u, rfl, rfl, .inl ⟨by decide, by decide⟩, _, _, rfl, rfl, _, 3, rfl, rfl, _, _, rfl, rfl, (show (0 : Int) < 4294967189 by decide), ?_⟩
          refine ⟨_, rfl, _, rfl, _, 25165843, rfl, rfl, _, _, rfl, rfl, cm_189 _ _, _, _, rfl, rfl, (show (0 : Int) < 4294967291 by decide), _, 64, rfl, rfl, ⟨by decide, by decide⟩, _, rfl, _, many, rfl, rfl, hm, ?_⟩
          exact k _ _ (rng _).1 (rng _).2 kq ⟨ns, u + 1, _, e1, e2, by omega, by omega⟩
      · refine ⟨_, rfl, _, rfl, p, _, rfl, dg_cells e1, c, _, rfl, .inl (SqL.of e2), u, _, rfl, rfl, _, rfl, ?_⟩
        refine ite2 (fun _ => ?_) (fun _ => ?_)
        · refine ⟨_, rfl, 29 * u + 11, rfl, 10, 18, rfl, rfl, ⟨by decide, by decide, by decide⟩, _, _, rfl, rfl, _, rfl, ?_⟩
          refine ite2 (fun _ => ?_) (fun _ => ?_)
          · refine ⟨_, rfl, 29 * u + 11, rfl, 10, 18, rfl, rfl, ⟨by decide, by decide, by decide⟩, _, _, rfl, rfl, _, rfl, _, many, rfl, rfl, wd _, _, rfl, p, _, rfl, dp_left _ e1, ?_⟩
            refine ⟨_, rfl, 29 * u + 11, rfl, 10, 18, rfl, rfl, ⟨by decide, by decide, by decide⟩, _, _, rfl, rfl, _, rfl, _, many, rfl, rfl, hm, ?_⟩
            exact k _ _ (rng _).1 (rng _).2 kq.upd ⟨ns, u + 1, _, upd_same, by rw [upd_ne npc.symm]; exact e2, by omega, by omega⟩
          · refine ⟨_, rfl, 29 * u + 11, 4294967231, rfl, rfl, (show (0 : Int) < 4294967231 by decide), _, 1664525, rfl, rfl, .inr ⟨by decide, by decide⟩, _, rfl, 24593, u, rfl, rfl, .inl ⟨by decide, by decide⟩, _, rfl, 24593 * u, u, rfl, rfl, .inr ⟨by omega, by omega⟩, _, _, rfl, rfl, ?_⟩
            refine ⟨_, rfl, _, rfl, 196613, u, rfl, rfl, .inl ⟨by decide, by decide⟩, _, _, rfl, rfl, _, 19, rfl, rfl, _, _, rfl, rfl, (show (0 : Int) < 4294967197 by decide), ?_⟩
            refine ⟨_, rfl, _, rfl, _, _, rfl, rfl, cm_197 _ _, _, rfl, 12582917, _, rfl, rfl, .inl ⟨by decide, by decide⟩, _, _, rfl, rfl, _, rfl, 7, u, rfl, rfl, .inl ⟨by decide, by decide⟩, _, _, rfl, rfl, _, 3, rfl, rfl, _, _, rfl, rfl, (show (0 : Int) < 4294967189 by decide), ?_⟩
            refine ⟨_, rfl, _, rfl, _, 25165843, rfl, rfl, _, _, rfl, rfl, cm_189 _ _, _, _, rfl, rfl, (show (0 : Int) < 4294967291 by decide), _, 64, rfl, rfl, ⟨by decide, by decide⟩, _, rfl, _, many, rfl, rfl, hm, ?_⟩
            exact k _ _ (rng _).1 (rng _).2 kq ⟨ns, u + 1, _, e1, e2, by omega, by omega⟩
        · refine iteF ?_
          refine ⟨_, rfl, 29 * u + 11, 4294967231, rfl, rfl, (show (0 : Int) < 4294967231 by decide), _, 1664525, rfl, rfl, .inr ⟨by decide, by decide⟩, _, rfl, 24593, u, rfl, rfl, .inl ⟨by decide, by decide⟩, _, rfl, 24593 * u, u, rfl, rfl, .inr ⟨by omega, by omega⟩, _, _, rfl, rfl, ?_⟩
          refine ⟨_, rfl, _, rfl, 196613, u, rfl, rfl, .inl ⟨by decide, by decide⟩, _, _, rfl, rfl, _, 19, rfl, rfl, _, _, rfl, rfl, (show (0 : Int) < 4294967197 by decide), ?_⟩
          refine ⟨_, rfl, _, rfl, _, _, rfl, rfl, cm_197 _ _, _, rfl, 12582917, _, rfl, rfl, .inl ⟨by decide, by decide⟩, _, _, rfl, rfl, _, rfl, 7, u, rfl, rfl, .inl ⟨by decide, by decide⟩, _, _, rfl, rfl, _, 3, rfl, rfl, _, _, rfl, rfl, (show (0 : Int) < 4294967189 by decide), ?_⟩
          refine ⟨_, rfl, _, rfl, _, 25165843, rfl, rfl, _, _, rfl, rfl, cm_189 _ _, _, _, rfl, rfl, (show (0 : Int) < 4294967291 by decide), _, 64, rfl, rfl, ⟨by decide, by decide⟩, _, rfl, _, many, rfl, rfl, hm, ?_⟩
          exact k _ _ (rng _).1 (rng _).2 kq ⟨ns, u + 1, _, e1, e2, by omega, by omega⟩
theorem sc__law_pick : FnScope ["_law_pen_here", "_law_options"] ["_law_pen_here", "_law_options"] (defScope s__law_pick) := ⟨rfl, rfl, rfl, by decide +kernel, rfl, by decide +kernel, by decide +kernel⟩
theorem ok__law_pick {f : Addr} {fd : FuncData} (F : Fun K "_law_pick" "_law_pick" s__law_pick f fd) (B : Blt mg) (C__law_draw : Cal P w K mg base 1 "_law_draw" sp__law_draw) : FnOk P w K mg base CX0 2 f fd ["_law_pen_here", "_law_options"] sp__law_pick := by
  refine F.ok sc__law_pick (fun vs H Q E h => ?_) (fun cdv A outer s H vs Q E hr h => ?_)
  · obtain ⟨p, c, o, n, xs, rfl, _⟩ := h
    rfl
  · obtain ⟨p, c, o, n, xs, rfl, pen, hn, ho, hx, hx2, k⟩ := h
    have nd := sc__law_pick.nd
    refine ⟨_, (pss_one (ps_ret (pe_ix ix_list (pv 1) (pe_c C__law_draw hr (by decide) (by rfl) (pa_cons (pv 0) (pa_cons (pe_callB call_len_seq (by rfl) B.len (by decide +kernel) (pa_cons (pv 1) pa_nil)) pa_nil))) (fun _ _ => rfl)))), ?_⟩
    have nop : o ≠ p := pen.dict.elim fun _ e => ne_of ho e (by intro z; cases z)
    refine ⟨_, rfl, _, rfl, _, rfl, o, xs, rfl, .inl (SqL.of ho), p, c, (xs.length : Int), n, rfl, by omega, ?_, pen, hn, fun r H1 h0 h9 kp pen1 => ?_⟩
    · exact Nat.lt_of_le_of_lt (show ((xs.length : Int)).natAbs ≤ 100000 by omega) (by decide)
    · obtain ⟨j, rfl⟩ : ∃ j : Nat, r = (j : Int) := ⟨r.toNat, by omega⟩
      have hj : j < xs.length := by omega
      refine ⟨o, xs, (j : Int), xs[j], rfl, rfl, SqL.of (kp _ _ nop ho), atI_nat (List.getElem?_eq_getElem hj), ?_⟩
      exact k _ _ (List.getElem_mem hj) kp pen1
theorem sc__law_cost : FnScope ["_law_prime", "_law_coefficient"] ["_law_prime", "_law_coefficient"] (defScope s__law_cost) := ⟨rfl, rfl, rfl, by decide +kernel, rfl, by decide +kernel, by decide +kernel⟩
theorem ok__law_cost {f : Addr} {fd : FuncData} (F : Fun K "_law_cost" "_law_cost" s__law_cost f fd) (B : Blt mg) : FnOk P w K mg base CX0 1 f fd ["_law_prime", "_law_coefficient"] sp_cost0 := by
  refine F.ok sc__law_cost (fun vs H Q E h => ?_) (fun cdv A outer s H vs Q E hr h => ?_)
  · obtain ⟨p, v, rfl, _⟩ := h
    rfl
  · obtain ⟨p, v, rfl, h0, h9, k⟩ := h
    refine ⟨_, (pss_one (ps_ret (pe_callB (call_min2 rfl) (by rfl) B.min (by decide +kernel) (pa_cons (pe_op op_mod (pv 1) (pv 0)) (pa_cons (pe_op op_mod (pe_un un_neg (pv 1)) (pv 0)) pa_nil))))), ?_⟩
    have e1 : v % p = v := Int.emod_eq_of_lt (by omega) h9
    refine ⟨_, rfl, _, rfl, v, p, rfl, rfl, by omega, _, rfl, v, rfl, _, rfl, -v, p, rfl, rfl, by omega, v % p, -v % p, rfl, ?_⟩
    by_cases hz : v = 0
    · subst hz
      have e0 : (-0 : Int) % p = 0 := by rw [Int.neg_zero, Int.zero_emod]
      have e3 : ft p 0 = 0 := by
        unfold ft
        rw [if_neg (by omega)]
      rw [e1, e0]
      rw [e3] at k
      exact k
    · have e2 : -v % p = p - v := by
        rw [← Int.add_emod_right (-v) p, Int.emod_eq_of_lt (by omega) (by omega)]
        omega
      rw [e1, e2]
      exact k
theorem sc__law_joined_counts : FnScope ["_law_one", "_law_other", "_law_cost_here", "_law_k"] ["_law_one", "_law_other"] (defScope s__law_joined_counts) := ⟨rfl, rfl, rfl, by decide +kernel, rfl, by decide +kernel, by decide +kernel⟩
theorem ok__law_joined_counts {f : Addr} {fd : FuncData} (F : Fun K "_law_joined_counts" "_law_joined_counts" s__law_joined_counts f fd) (B : Blt mg) : FnOk P w K mg base CX0 1 f fd ["_law_one", "_law_other"] (sp_product_of K) := by
  refine F.ok sc__law_joined_counts (fun vs H Q E h => ?_) (fun cdv A outer s H vs Q E hr h => ?_)
  · obtain ⟨v1, v2, a, b, rfl, _⟩ := h
    rfl
  · obtain ⟨v1, v2, a, b, rfl, ⟨A1, rfl, hA⟩, ⟨B1, rfl, hB⟩, hl, hn, ba, bb, k⟩ := h
    have nd := sc__law_joined_counts.nd
    refine ⟨_, (pss_one (ps_ret (pe_lc (own := [("_law_cost_here", 2)]) (by rfl) nd (pi_range1 (by rfl) B.range (pa_cons (pe_callB call_len_seq (by rfl) B.len (by decide +kernel) (pa_cons (pv 0) pa_nil)) pa_nil)) (blkOk_by (N := ["_law_one", "_law_other", "_law_cost_here", "_law_k"]) (sc := defScope s__law_joined_counts) (own := [("_law_cost_here", 2)]) (by decide +kernel)) (fun _ _ _ _ _ => (pg_name (i := 2) nd rfl (.inr rfl))) (fun _ _ _ _ _ => pts_nil) (fun _ _ _ _ _ => (pe_callB (cr_sumC K rfl rfl) (by rfl) B.sum (by decide +kernel) (pa_cons (pe_lc (own := [("_law_k", 3)]) (by rfl) nd (pi_range1 (by rfl) B.range (pa_cons (pe_op op_add (pv 2) pe_int) pa_nil)) (blkOk_by (N := ["_law_one", "_law_other", "_law_cost_here", "_law_k"]) (sc := { kind := ScopeKind.function, names := [(".0", NameKind.local), ("_law_cost_here", NameKind.cell), ("sum", NameKind.globalImplicit), ("range", NameKind.globalImplicit), ("_law_one", NameKind.cell), ("_law_other", NameKind.cell)], isGenerator := false, isCoroutine := false }) (own := [("_law_k", 3)]) (by decide +kernel)) (fun _ _ _ _ _ => (pg_name (i := 3) nd rfl (.inl rfl))) (fun _ _ _ _ _ => pts_nil) (fun _ _ _ _ _ => (pe_op op_mulW (pe_ix (ix_lC K rfl) (pv 0) (pv 3) (fun _ _ => rfl)) (pe_ix (ix_lC K rfl) (pv 1) (pe_op op_sub (pv 2) (pv 3)) (fun _ _ => rfl))))) pa_nil)))))), ?_⟩
    skip
    dsimp only [tNext, tSeq, tRet]
    refine lcInt (fun i => cvS a b i) (a.map V.int).length (by rw [List.length_map]; omega) (fun R r => ⟨_, rfl, A1, _, rfl, .inl (SqL.of hA), r⟩) (fun _ => rfl) (fun m hm H2 s2 S r => ?_) (fun D H2 nD s2 hD => ?_)
    · rw [List.length_map] at hm
      dsimp only [tCB, tCons, tNil]
      refine lcInt (fun j => a.getD j 0 * b.getD (m - j) 0) (m + 1) (by omega) (fun R r => ⟨_, rfl, 0 + (m : Int), 1, rfl, rfl, ?_⟩) (fun _ => rfl) (fun j hj H3 s3 S' r' => ?_) (fun D H3 nD s3 hD => ?_)
      · show R [V.int (0 + (m : Int) + 1)] _
        rw [show (0 + (m : Int) + 1) = ((m + 1 : Nat) : Int) by omega]
        exact r
      · have s13 := s2.trans s3
        refine ⟨_, rfl, _, rfl, A1, _, 0 + (j : Int), _, rfl, rfl, SqL.of (s13 _ _ hA), atI_nI (k := j) (by omega) (by omega), ?_⟩
        refine ⟨_, rfl, _, rfl, _, rfl, 0 + (m : Int), 0 + (j : Int), rfl, rfl, B1, _, _, _, rfl, rfl, SqL.of (s13 _ _ hB), atI_nI (k := m - j) (by omega) (by omega), ?_⟩
        exact ⟨_, _, rfl, rfl, wide_mul (ba.lt _) (bb.lt _) (by decide) (by decide) (by decide), r' H3 (Same.refl _)⟩
      · exact ⟨D, _, rfl, SqL.of hD, r H3 s3⟩
    · rw [List.length_map] at hD
      exact k _ H2 s2 ⟨D, rfl, hD⟩
theorem sc__law_later : FnScope ["_law_counts", "_law_more"] ["_law_counts", "_law_more"] (defScope s__law_later) := ⟨rfl, rfl, rfl, by decide +kernel, rfl, by decide +kernel, by decide +kernel⟩
theorem ok__law_later {f : Addr} {fd : FuncData} (F : Fun K "_law_later" "_law_later" s__law_later f fd) (B : Blt mg) : FnOk P w K mg base CX0 1 f fd ["_law_counts", "_law_more"] (sp_delayed K) := by
  refine F.ok sc__law_later (fun vs H Q E h => ?_) (fun cdv A outer s H vs Q E hr h => ?_)
  · obtain ⟨v, a, d, rfl, _⟩ := h
    rfl
  · obtain ⟨v, a, d, rfl, ⟨A1, rfl, hA⟩, hd, hn, k⟩ := h
    have nd := sc__law_later.nd
    refine ⟨_, (pss_one (ps_ret (pe_slice sl_list (pe_op op_cat (pe_op op_rep (pe_lst (pa_cons pe_int pa_nil)) (pv 1)) (pv 0)) po_none (po_some (pe_callB call_len_seq (by rfl) B.len (by decide +kernel) (pa_cons (pv 0) pa_nil)))))), ?_⟩
    refine ⟨sl_of (show 1 ≤ 1000000 by decide), fun l1 n1 => ?_⟩
    have z1 := same_new n1 (o := HO.lst [V.int 0])
    refine ⟨_, rfl, l1, (d : Int), _, rfl, rfl, upd_same, by omega, by omega, sl_of (show [V.int 0].length * ((d : Int)).toNat ≤ 1000000 by rw [Int.toNat_natCast]; show 1 * d ≤ _; omega), fun l2 n2 => ?_⟩
    have e2 : (List.replicate ((d : Int)).toNat [V.int 0]).flatten = (List.replicate d (0 : Int)).map V.int := by rw [Int.toNat_natCast, rep_zero]
    rw [e2]
    have z2 := same_new n2 (o := HO.lst ((List.replicate d (0 : Int)).map V.int))
    have hA2 := (z1.trans z2) _ _ hA
    refine ⟨_, rfl, l2, A1, _, _, rfl, rfl, upd_same, hA2, sl_of (by rw [List.length_map, List.length_map, List.length_replicate]; omega), fun l3 n3 => ?_⟩
    have z3 := same_new n3 (o := HO.lst ((List.replicate d (0 : Int)).map V.int ++ a.map V.int))
    refine ⟨_, rfl, A1, _, rfl, .inl (SqL.of (z3 _ _ hA2)), ?_⟩
    refine ⟨_, rfl, l3, _, rfl, SqL.of upd_same, fun l4 n4 => ?_⟩
    rw [cut_to _ (by rw [List.length_append, List.length_map]; omega)]
    refine k _ _ (z1.trans (z2.trans (z3.trans (same_new n4)))) ⟨l4, rfl, ?_⟩
    rw [upd_same, delL, ← List.map_append, ← List.map_take, List.length_map]
theorem sc__law_count : FnScope ["_law_prime", "_law_most", "_law_costs", "_law_free", "_law_turned", "_law_side", "_law_edge", "_law_parts", "_law_middle", "_law_k", "_law_total", "_law_shift", "_law_value", "_law_cost_here", "_law_one", "_law_other"] ["_law_prime", "_law_most"] (defScope s__law_count) := ⟨rfl, rfl, rfl, by decide +kernel, rfl, by decide +kernel, by decide +kernel⟩
theorem ok__law_count {f : Addr} {fd : FuncData} (F : Fun K "_law_count" "_law_count" s__law_count f fd) (B : Blt mg) (C__law_cost : Cal P w K mg base 1 "_law_cost" sp_cost0) (C__law_later : Cal P w K mg base 1 "_law_later" (sp_delayed K)) (C__law_joined_counts : Cal P w K mg base 1 "_law_joined_counts" (sp_product_of K)) : FnOk P w K mg base CX0 2 f fd ["_law_prime", "_law_most"] (sp__law_count K) := by
  refine F.ok sc__law_count (fun vs H Q E h => ?_) (fun cdv A outer s H vs Q E hr h => ?_)
  · obtain ⟨p, m, rfl, _⟩ := h
    rfl
  · obtain ⟨p, m, rfl, hp, hm, hd0, k⟩ := h
    have nd := sc__law_count.nd
    refine ⟨_, (pss_cons (ps_set (i := 2) nd rfl (.inr rfl) (pe_lc (own := [("_law_value", 12)]) (by rfl) nd (pi_range1 (by rfl) B.range (pa_cons (pv 0) pa_nil)) (blkOk_by (N := ["_law_prime", "_law_most", "_law_costs", "_law_free", "_law_turned", "_law_side", "_law_edge", "_law_parts", "_law_middle", "_law_k", "_law_total", "_law_shift", "_law_value", "_law_cost_here", "_law_one", "_law_other"]) (sc := defScope s__law_count) (own := [("_law_value", 12)]) (by decide +kernel)) (fun _ _ _ _ _ => (pg_name (i := 12) nd rfl (.inl rfl))) (fun _ _ _ _ _ => pts_nil) (fun _ _ _ _ _ => (pe_c C__law_cost hr (by decide) (by rfl) (pa_cons (pv 0) (pa_cons (pv 12) pa_nil))))))
    (pss_cons (ps_setLc (i := 3) (te := tBM K "list" (rCntI K) (tVar 2) (tCons (tVar 13) tNil)) (own := [("_law_cost_here", 13)]) (by rfl) nd rfl rfl (sw_true rfl rfl rfl (by decide +kernel)) (pi_range1 (by rfl) B.range (pa_cons (pe_op op_add (pv 1) pe_int) pa_nil)) (blkOk_by (N := ["_law_prime", "_law_most", "_law_costs", "_law_free", "_law_turned", "_law_side", "_law_edge", "_law_parts", "_law_middle", "_law_k", "_law_total", "_law_shift", "_law_value", "_law_cost_here", "_law_one", "_law_other"]) (sc := defScope s__law_count) (own := [("_law_cost_here", 13)]) (by decide +kernel)) (fun _ _ _ _ _ => (pg_name (i := 13) nd rfl (.inl rfl))) (fun _ _ _ _ _ => pts_nil) (fun _ _ _ _ _ => (pe_bm PySem.F.plainAttrs_list PySem.F.slot_list_count PySem.F.type_list_count (mt_lcC K rfl) (pv 2) (pa_cons (pv 13) pa_nil))))
    (pss_cons (ps_set (i := 4) nd rfl (.inl rfl) (pe_op op_cat (pe_lst (pa_cons pe_int pa_nil)) (pe_slice sl_list (pv 3) (po_some pe_int) po_none)))
    (pss_cons (ps_asg (pe_tup (pa_cons (pe_op op_rep (pe_lst (pa_cons pe_int pa_nil)) (pe_op op_add (pv 1) pe_int)) (pa_cons (pe_c C__law_later hr (by decide) (by rfl) (pa_cons (pv 4) (pa_cons pe_int pa_nil))) (pa_cons (pe_op op_cat (pe_lst (pa_cons pe_int pa_nil)) (pe_op op_rep (pe_lst (pa_cons pe_int pa_nil)) (pv 1))) (pa_cons (pv 3) pa_nil))))) (pg_tup rfl (pgs_cons (pg_name (i := 5) nd rfl (.inl rfl)) (pgs_cons (pg_name (i := 6) nd rfl (.inl rfl)) (pgs_cons (pg_name (i := 7) nd rfl (.inl rfl)) (pgs_cons (pg_name (i := 8) nd rfl (.inl rfl)) pgs_nil))))))
    (pss_cons (ps_for PassesOwn.never rfl (pi_range1 (by rfl) B.range (pa_cons (pe_op op_fdiv (pv 1) pe_int) pa_nil)) (pg_name (i := 9) nd rfl (.inl rfl))
      (pss_cons (ps_setLc (i := 5) (own := [("_law_one", 14), ("_law_other", 15)]) (g := gTup K 2 (gCons (gName 14) (gCons (gName 15) gNil))) (by rfl) nd rfl rfl (sw_true rfl rfl rfl (by decide +kernel)) (RZ.pi_zipA (by rfl) B.zip (pa_cons (pv 5) (pa_cons (pv 6) pa_nil))) (blkOk_by (N := ["_law_prime", "_law_most", "_law_costs", "_law_free", "_law_turned", "_law_side", "_law_edge", "_law_parts", "_law_middle", "_law_k", "_law_total", "_law_shift", "_law_value", "_law_cost_here", "_law_one", "_law_other"]) (sc := defScope s__law_count) (own := [("_law_one", 14), ("_law_other", 15)]) (by decide +kernel)) (fun _ _ _ _ _ => (pg_tup rfl (pgs_cons (pg_name (i := 14) nd rfl (.inl rfl) (.inr rfl)) (pgs_cons (pg_name (i := 15) nd rfl (.inl rfl) (.inr rfl)) pgs_nil)))) (fun _ _ _ _ _ => pts_nil) (fun _ _ _ _ _ => (pe_op op_add (pv 14) (pv 15))))
    (pss_one (ps_set (i := 6) nd rfl (.inl rfl) (pe_c C__law_later hr (by decide) (by rfl) (pa_cons (pe_c C__law_joined_counts hr (by decide) (by rfl) (pa_cons (pv 6) (pa_cons (pv 3) pa_nil))) (pa_cons pe_int pa_nil)))))))
    (pss_cons (ps_setLc (i := 5) (own := [("_law_one", 14), ("_law_other", 15)]) (g := gTup K 2 (gCons (gName 14) (gCons (gName 15) gNil))) (by rfl) nd rfl rfl (sw_true rfl rfl rfl (by decide +kernel)) (RZ.pi_zipA (by rfl) B.zip (pa_cons (pv 5) (pa_cons (pv 7) pa_nil))) (blkOk_by (N := ["_law_prime", "_law_most", "_law_costs", "_law_free", "_law_turned", "_law_side", "_law_edge", "_law_parts", "_law_middle", "_law_k", "_law_total", "_law_shift", "_law_value", "_law_cost_here", "_law_one", "_law_other"]) (sc := defScope s__law_count) (own := [("_law_one", 14), ("_law_other", 15)]) (by decide +kernel)) (fun _ _ _ _ _ => (pg_tup rfl (pgs_cons (pg_name (i := 14) nd rfl (.inl rfl) (.inr rfl)) (pgs_cons (pg_name (i := 15) nd rfl (.inl rfl) (.inr rfl)) pgs_nil)))) (fun _ _ _ _ _ => pts_nil) (fun _ _ _ _ _ => (pe_op op_add (pv 14) (pv 15))))
    (pss_cons (ps_set (i := 10) nd rfl (.inl rfl) (pe_op op_rep (pe_lst (pa_cons pe_int pa_nil)) (pe_op op_add (pv 1) pe_int)))
    (pss_cons (ps_for PassesOwn.never rfl (pi_range1 (by rfl) B.range (pa_cons (pe_op op_add (pv 1) pe_int) pa_nil)) (pg_name (i := 11) nd rfl (.inr rfl))
      (pss_cons (ps_setLc (i := 10) (own := [("_law_one", 14), ("_law_other", 15)]) (g := gTup K 2 (gCons (gName 14) (gCons (gName 15) gNil))) (by rfl) nd rfl rfl (sw_true rfl rfl rfl (by decide +kernel)) (RZ.pi_zipA (by rfl) B.zip (pa_cons (pv 10) (pa_cons (pv 8) pa_nil))) (blkOk_by (N := ["_law_prime", "_law_most", "_law_costs", "_law_free", "_law_turned", "_law_side", "_law_edge", "_law_parts", "_law_middle", "_law_k", "_law_total", "_law_shift", "_law_value", "_law_cost_here", "_law_one", "_law_other"]) (sc := defScope s__law_count) (own := [("_law_one", 14), ("_law_other", 15)]) (by decide +kernel)) (fun _ _ _ _ _ => (pg_tup rfl (pgs_cons (pg_name (i := 14) nd rfl (.inl rfl) (.inr rfl)) (pgs_cons (pg_name (i := 15) nd rfl (.inl rfl) (.inr rfl)) pgs_nil)))) (fun _ _ _ _ _ => pts_nil) (fun _ _ _ _ _ => (pe_op op_add (pv 14) (pe_op op_mulW (pe_op op_add pe_int (pe_callTy call_int1 (by rfl) B.int (by decide +kernel) (pa_cons (pe_cmpR op_gt (pv 11) pe_int (nomark _)) pa_nil))) (pv 15)))))
    (pss_one (ps_set (i := 8) nd rfl (.inl rfl) (pe_c C__law_later hr (by decide) (by rfl) (pa_cons (pe_c C__law_joined_counts hr (by decide) (by rfl) (pa_cons (pv 8) (pa_cons (pv 3) pa_nil))) (pa_cons pe_int pa_nil)))))))
    (pss_one (ps_ret (pe_ix ix_list (pe_c C__law_joined_counts hr (by decide) (by rfl) (pa_cons (pv 10) (pa_cons (pe_c C__law_joined_counts hr (by decide) (by rfl) (pa_cons (pv 5) (pa_cons (pv 5) pa_nil))) pa_nil))) (pv 1) (fun _ _ => rfl)))))))))))), ?_⟩
    have lD : (dialL p m).length = m + 1 := dialL_len p m
    have bD := dialL_bn (p := p) m hp
    dsimp only [tNext, tSeq]
    refine lcInt (fun v : Nat => ft (p : Int) (v : Int)) p (by omega) (fun R r => ⟨_, rfl, r⟩) (fun _ => rfl) (fun v hv H2 s2 S r => ?_) (fun L1 H1 _ s1 hL1 => ?_)
    · refine ⟨_, rfl, _, rfl, (p : Int), 0 + (v : Int), rfl, by omega, by omega, ?_⟩
      rw [Int.zero_add]
      exact r H2 (Same.refl _)
    rw [gName_app]
    dsimp only [tNext, tSeq, tAsg]
    refine lcInt (fun c : Nat => ((((List.range p).map fun v : Nat => ft (p : Int) (v : Int)).count (c : Int) : Nat) : Int)) (m + 1) (by omega) (fun R r => ⟨_, rfl, (m : Int), 1, rfl, rfl, r⟩) (fun _ => rfl) (fun c hc H2 s2 S r => ?_) (fun M2 H2 _ s2 hL2 => ?_)
    · refine ⟨_, rfl, .inl ⟨rfl, _, SqL.of (s2 _ _ hL1)⟩, _, rfl, L1, _, 0 + (c : Int), rfl, rfl, SqL.of (s2 _ _ hL1), ?_⟩
      rw [Int.zero_add]
      exact r H2 (Same.refl _)
    have hF : LI H2 (V.ref M2) (dialL p m) := ⟨M2, rfl, hL2⟩
    rw [gName_app]
    -- turned
    refine ⟨sl_of (show 1 ≤ 1000000 by decide), fun l1 n1 => ?_⟩
    have z1 := same_new n1 (o := HO.lst [V.int 0])
    refine ⟨_, rfl, 1, rfl, M2, _, rfl, SqL.of (z1 _ _ hL2), fun l2 n2 => ?_⟩
    have ec : cutV ((dialL p m).map V.int) (some 1) none = ((dialL p m).map V.int).drop 1 := cut_from (n := 1) _ (by rw [List.length_map]; omega)
    have hL2' : H2 M2 = some (HO.lst ((dialL p m).map V.int)) := hL2
    show rCat (V.ref l1) (V.ref l2) (upd _ l2 (HO.lst (cutV ((dialL p m).map V.int) (some 1) none))) _
    rw [ec]
    have z2 := same_new n2 (o := HO.lst (((dialL p m).map V.int).drop 1))
    refine ⟨l1, l2, _, _, rfl, rfl, z2 _ _ upd_same, upd_same, sl_of (by rw [List.length_drop, List.length_map]; show 1 + ((dialL p m).length - 1) ≤ _; omega), fun l3 n3 => ?_⟩
    have z3 := same_new n3 (o := HO.lst ([V.int 0] ++ ((dialL p m).map V.int).drop 1))
    have hT : LI (upd (upd (upd H2 l1 (HO.lst [V.int 0])) l2 (HO.lst (((dialL p m).map V.int).drop 1))) l3 (HO.lst ([V.int 0] ++ ((dialL p m).map V.int).drop 1))) (V.ref l3) (addL (-1) (dialL p m) (unitL (dialL p m).length)) := ⟨l3, rfl, by
      rw [← turned_eq (by omega) hd0, List.map_append, List.map_drop]
      exact upd_same⟩
    have s3 := z1.trans (z2.trans z3)
    generalize upd (upd (upd H2 l1 (HO.lst [V.int 0])) l2 (HO.lst (((dialL p m).map V.int).drop 1))) l3 (HO.lst ([V.int 0] ++ ((dialL p m).map V.int).drop 1)) = H3 at hT s3 ⊢
    have hF3 := hF.same s3
    -- side, edge, parts, middle
    refine ⟨sl_of (show 1 ≤ 1000000 by decide), fun l4 n4 => ?_⟩
    have z4 := same_new n4 (o := HO.lst [V.int 0])
    refine ⟨_, rfl, (m : Int), 1, rfl, rfl, ?_⟩
    refine ⟨l4, (m : Int) + 1, _, rfl, rfl, upd_same, by omega, by omega, sl_of (show [V.int 0].length * ((m : Int) + 1).toNat ≤ 1000000 by show 1 * _ ≤ _; omega), fun l5 n5 => ?_⟩
    have e5 : (List.replicate ((m : Int) + 1).toNat [V.int 0]).flatten = (List.replicate (dialL p m).length (0 : Int)).map V.int := by
      rw [show ((m : Int) + 1).toNat = m + 1 by omega, rep_zero, lD]
    rw [e5]
    have z5 := same_new n5 (o := HO.lst ((List.replicate (dialL p m).length (0 : Int)).map V.int))
    have hZ : LI (upd (upd H3 l4 (HO.lst [V.int 0])) l5 (HO.lst ((List.replicate (dialL p m).length (0 : Int)).map V.int))) (V.ref l5) (List.replicate (dialL p m).length (0 : Int)) := ⟨l5, rfl, upd_same⟩
    have hu : (dialL p m).length = (unitL (dialL p m).length).length := by rw [unitL_len (by omega)]
    refine ⟨_, rfl, _, _, 2, rfl, hT.same (z4.trans z5), by omega, by rw [addL_len hu]; omega, fun u6 H6 s6 h6 => ?_⟩
    refine ⟨sl_of (show 1 ≤ 1000000 by decide), fun l7 n7 => ?_⟩
    have z7 := same_new n7 (o := HO.lst [V.int 1])
    refine ⟨sl_of (show 1 ≤ 1000000 by decide), fun l8 n8 => ?_⟩
    have z8 := same_new n8 (o := HO.lst [V.int 0])
    refine ⟨_, rfl, l8, (m : Int), _, rfl, rfl, upd_same, by omega, by omega, sl_of (show [V.int 0].length * ((m : Int)).toNat ≤ 1000000 by show 1 * _ ≤ _; omega), fun l9 n9 => ?_⟩
    have e9 : (List.replicate ((m : Int)).toNat [V.int 0]).flatten = (List.replicate ((dialL p m).length - 1) (0 : Int)).map V.int := by
      rw [Int.toNat_natCast, rep_zero, lD, Nat.add_sub_cancel]
    rw [e9]
    have z9 := same_new n9 (o := HO.lst ((List.replicate ((dialL p m).length - 1) (0 : Int)).map V.int))
    refine ⟨l7, l9, _, _, rfl, rfl, z9 _ _ (z8 _ _ upd_same), upd_same, sl_of (by rw [List.length_map, List.length_replicate]; show 1 + _ ≤ _; omega), fun l10 n10 => ?_⟩
    have z10 := same_new n10 (o := HO.lst ([V.int 1] ++ (List.replicate ((dialL p m).length - 1) (0 : Int)).map V.int))
    have hU : LI (upd (upd (upd (upd H6 l7 (HO.lst [V.int 1])) l8 (HO.lst [V.int 0])) l9 (HO.lst ((List.replicate ((dialL p m).length - 1) (0 : Int)).map V.int))) l10 (HO.lst ([V.int 1] ++ (List.replicate ((dialL p m).length - 1) (0 : Int)).map V.int))) (V.ref l10) (unitL (dialL p m).length) := ⟨l10, rfl, upd_same⟩
    have s610 := z7.trans (z8.trans (z9.trans z10))
    refine ⟨_, rfl, sl_of (show 4 ≤ 1000000 by decide), fun l11 n11 => ?_⟩
    have z11 := same_new n11 (o := HO.tup [V.ref l5, u6, V.ref l10, V.ref M2])
    refine ⟨l11, _, rfl, SqT.of upd_same, rfl, _, _, rfl, _, _, rfl, _, _, rfl, _, _, rfl, rfl, ?_⟩
    have hZ := hZ.same (s6.trans (s610.trans z11))
    have h6 := h6.same (s610.trans z11)
    have hU := hU.same z11
    have hF := hF3.same (z4.trans (z5.trans (s6.trans (s610.trans z11))))
    have s0 := s1.trans (s2.trans (s3.trans (z4.trans (z5.trans (s6.trans (s610.trans z11))))))
    generalize upd (upd (upd (upd (upd H6 l7 (HO.lst [V.int 1])) l8 (HO.lst [V.int 0])) l9 (HO.lst ((List.replicate ((dialL p m).length - 1) (0 : Int)).map V.int))) l10 (HO.lst ([V.int 1] ++ (List.replicate ((dialL p m).length - 1) (0 : Int)).map V.int))) l11 (HO.tup [V.ref l5, u6, V.ref l10, V.ref M2]) = H11 at hZ h6 hU hF s0 ⊢
    have eP : (delL (addL (-1) (dialL p m) (unitL (dialL p m).length)) 2).length = (dialL p m).length := by rw [delL_len, addL_len hu]
    have bP : Bn 9 (delL (addL (-1) (dialL p m) (unitL (dialL p m).length)) 2) := bn_del (bn_add (by decide) bD ((bn_unit _).mono (by omega)))
    have bS : Bn 9 (unitL (dialL p m).length) := (bn_unit _).mono (by omega)
    have lZ : (List.replicate (dialL p m).length (0 : Int)).length = (delL (addL (-1) (dialL p m) (unitL (dialL p m).length)) 2).length := by rw [eP, List.length_replicate]
    have hside := side_eq (D := dialL p m) (by omega) ((m : Int) / 2).toNat
    have sideN : sumN 1 (unitL (dialL p m).length) (delL (addL (-1) (dialL p m) (unitL (dialL p m).length)) 2) (dialL p m) 2 ((m : Int) / 2).toNat = sideL (dialL p m) := by
      unfold sideL
      rw [show ((m : Int) / 2).toNat = ((dialL p m).length - 1) / 2 by omega]
    rw [sideN] at hside
    have bZ : Bn 9 (List.replicate (dialL p m).length (0 : Int)) := fun x hx => by
      rw [(List.mem_replicate.mp hx).2]
      exact Nat.zero_le _
    generalize delL (addL (-1) (dialL p m) (unitL (dialL p m).length)) 2 = P0 at h6 eP bP lZ hside
    generalize hZ0 : List.replicate (dialL p m).length (0 : Int) = Z0 at hZ lZ hside bZ
    have hln : ∀ j, (partN P0 (dialL p m) 2 j).length = m + 1 := fun j => by rw [partN_len, eP, lD]
    have hls : ∀ j, (sumN 1 Z0 P0 (dialL p m) 2 j).length = m + 1 := fun j => by rw [sumN_len lZ, eP, lD]
    refine ⟨_, rfl, (m : Int), 2, rfl, rfl, ⟨by decide, by decide⟩, (m : Int) / 2, rfl, by omega, by omega, for_range (lo := 0) (n := ((m : Int) / 2).toNat) (fun i σ G => ∃ (a b : Addr) (y9 : Option V), σ = [some (.int (p : Int)), some (.int (m : Int)), some (.ref L1), some (.ref M2), some (.ref l3), some (.ref a), some (.ref b), some (.ref l10), some (.ref M2), y9, none, none, none, none, none, none] ∧ Same H11 G ∧ LI G (.ref a) (sumN 1 Z0 P0 (dialL p m) 2 i) ∧ LI G (.ref b) (partN P0 (dialL p m) 2 i)) ?_ ?_ ?_⟩
    · obtain ⟨a6, rfl, _⟩ := id h6
      exact ⟨_, _, _, rfl, Same.refl _, hZ, h6⟩
    · rintro i σ G hi ⟨a, b, y9, rfl, sg, ha, hb⟩
      have bp := partN_bn (d := 2) (by omega : P0.length ≤ 64) bP bD i
      rw [gName_app]
      dsimp only [tNext, tSeq, tAsg]
      obtain ⟨a', ea, ha'⟩ := ha
      cases ea
      obtain ⟨b', eb, hb'⟩ := id hb
      cases eb
      refine lcZipI (K := K) (fun x y => x + 1 * y) (fun R r => ⟨_, rfl, _, rfl, r⟩) (SqL.of ha') (SqL.of hb') (by rw [hls, hln]) (by rw [hls]; omega) (fun _ _ => rfl) (fun x hx y hy G2 s2 S r => ?_) (fun D G2 nD s2 hD => ?_)
      · rw [Int.one_mul] at r
        exact ⟨_, rfl, _, rfl, _, _, rfl, rfl, r⟩
      rw [gName_app]
      refine ⟨_, rfl, _, rfl, _, _, _, _, rfl, hb.same s2, hF.same (sg.trans s2), by rw [hln, lD], by rw [hln]; omega, bp.mono (by omega), bD.mono (by omega), fun u8 G3 s8 h8 => ?_⟩
      refine ⟨u8, _, 2, rfl, h8, by omega, by rw [prodL_len, hln]; omega, fun u9 G4 s9 h9' => ?_⟩
      obtain ⟨a9, rfl, ha9⟩ := id h9'
      exact ⟨D, a9, _, rfl, sg.trans (s2.trans (s8.trans s9)), ⟨D, rfl, (s8.trans s9) _ _ hD⟩, h9'⟩
    rintro σ G ⟨a, b, y9, rfl, sg, ⟨a', ea, ha⟩, _⟩
    cases ea
    -- the side
    dsimp only [tNext, tSeq, tAsg]
    obtain ⟨au, eu, hU'⟩ := hU.same sg
    cases eu
    refine lcZipI (K := K) (fun x y => x + 1 * y) (fun R r => ⟨_, rfl, _, rfl, r⟩) (SqL.of ha) (SqL.of hU') (by rw [hls, ← hu, lD]) (by rw [hls]; omega) (fun _ _ => rfl) (fun x hx y hy G2 s2 S r => ?_) (fun SD G2 nD g2 hSD => ?_)
    · rw [Int.one_mul] at r
      exact ⟨_, rfl, _, rfl, _, _, rfl, rfl, r⟩
    have hSide : LI G2 (.ref SD) (sideL (dialL p m)) := ⟨SD, rfl, by rw [← hside]; exact hSD⟩
    rw [gName_app]
    -- the total
    refine ⟨sl_of (show 1 ≤ 1000000 by decide), fun k1 m1 => ?_⟩
    have y1 := same_new m1 (o := HO.lst [V.int 0])
    refine ⟨_, rfl, (m : Int), 1, rfl, rfl, ?_⟩
    refine ⟨k1, (m : Int) + 1, _, rfl, rfl, upd_same, by omega, by omega, sl_of (show [V.int 0].length * ((m : Int) + 1).toNat ≤ 1000000 by show 1 * _ ≤ _; omega), fun k2 m2 => ?_⟩
    rw [e5]
    have y2 := same_new m2 (o := HO.lst ((List.replicate (dialL p m).length (0 : Int)).map V.int))
    have hT0 : LI (upd (upd G2 k1 (HO.lst [V.int 0])) k2 (HO.lst ((List.replicate (dialL p m).length (0 : Int)).map V.int))) (V.ref k2) (totN (dialL p m) 0) := ⟨k2, rfl, upd_same⟩
    have sg2 := sg.trans (g2.trans (y1.trans y2))
    have hSide := hSide.same (y1.trans y2)
    generalize upd (upd G2 k1 (HO.lst [V.int 0])) k2 (HO.lst ((List.replicate (dialL p m).length (0 : Int)).map V.int)) = G3 at hT0 sg2 hSide ⊢
    have hF3 := hF.same sg2
    refine ⟨_, rfl, (m : Int), 1, rfl, rfl, (m : Int) + 1, rfl, by omega, by omega, for_range (lo := 0) (n := ((m : Int) + 1).toNat) (fun i σ G => ∃ (a2 b2 : Addr) (y11 : Option V), σ = [some (.int (p : Int)), some (.int (m : Int)), some (.ref L1), some (.ref M2), some (.ref l3), some (.ref SD), some (.ref b), some (.ref l10), some (.ref b2), y9, some (.ref a2), y11, none, none, none, none] ∧ Same G3 G ∧ LI G (.ref a2) (totN (dialL p m) i) ∧ LI G (.ref b2) (mdN (dialL p m) i)) ?_ ?_ ?_⟩
    · exact ⟨_, _, _, rfl, Same.refl _, hT0, hF3⟩
    · rintro i σ G4 hi ⟨a2, b2, y11, rfl, sg4, ⟨a', ea, ha'⟩, hb⟩
      cases ea
      obtain ⟨b', eb, hb'⟩ := id hb
      cases eb
      have bp := mdN_bn (D := dialL p m) (by omega) bD i
      rw [gName_app]
      dsimp only [tNext, tSeq, tAsg]
      refine lcZipI (K := K) (fun x y => x + (if 0 < i then 2 else 1) * y) (fun R r => ⟨_, rfl, _, rfl, r⟩) (SqL.of ha') (SqL.of hb') (by rw [totN_len, mdN_len]) (by rw [totN_len]; omega) (fun _ _ => rfl) (fun x hx y hy G5 s5 S r => ?_) (fun D G5 nD s5 hD => ?_)
      · have wy' : y.natAbs < 2 ^ 2000 := Nat.lt_of_le_of_lt (bp y hy) (Nat.pow_lt_pow_right (by decide) (by omega))
        have e2 : ∀ b : Bool, b = decide ((0 : Int) < 0 + (i : Int)) → (1 : Int) + (if b = true then 1 else 0) = if 0 < i then 2 else 1 := fun b hb => by
          by_cases h0 : 0 < i
          · rw [hb, decide_eq_true (by omega), if_pos rfl, if_pos h0]; rfl
          · rw [hb, decide_eq_false (by omega), if_neg h0]; rfl
        refine ⟨_, rfl, _, rfl, 0 + (i : Int), 0, rfl, rfl, .inr ⟨_, rfl, 1, _, rfl, rfl, _, rfl, _, y, rfl, rfl, wide_mul (a := 2) ?_ wy' (by decide) (by decide) (by decide), x, _, rfl, rfl, ?_⟩⟩
        · rw [e2 _ rfl]
          split <;> decide
        · rw [e2 _ rfl]
          exact r
      rw [gName_app]
      refine ⟨_, rfl, _, rfl, _, _, _, _, rfl, hb.same s5, hF3.same (sg4.trans s5), by rw [mdN_len], by rw [mdN_len]; omega, bp.mono (by omega), bD.mono (by omega), fun u8 G6 s8 h8 => ?_⟩
      refine ⟨u8, _, 1, rfl, h8, by omega, by rw [prodL_len, mdN_len]; omega, fun u9 G7 s9 h9' => ?_⟩
      obtain ⟨a9, rfl, ha9⟩ := id h9'
      rw [mdN_step] at h9'
      refine ⟨D, a9, _, rfl, sg4.trans (s5.trans (s8.trans s9)), ⟨D, rfl, ?_⟩, h9'⟩
      rw [← totN_step]
      exact (s8.trans s9) _ _ hD
    rintro σ G4 ⟨a2, b2, y11, rfl, sg4, hTo, _⟩
    rw [show ((m : Int) + 1).toNat = m + 1 by omega] at hTo
    have hMid : totN (dialL p m) (m + 1) = midL (dialL p m) := by
      unfold midL
      rw [lD]
      rfl
    rw [hMid] at hTo
    have l2 := side_len (D := dialL p m) (by omega)
    have b2' := side_bn (D := dialL p m) (by omega) (by omega) bD
    have b3 := mid_bn (D := dialL p m) (by omega) bD
    have lM := mid_len (D := dialL p m)
    refine ⟨_, rfl, _, rfl, _, rfl, _, _, _, _, rfl, hSide.same sg4, hSide.same sg4, rfl, by omega, b2'.mono (by omega), b2'.mono (by omega), fun u3 G5 s3 h3 => ?_⟩
    refine ⟨_, u3, _, _, rfl, hTo.same s3, h3, by rw [lM, prodL_len, l2], by omega, b3.mono (by omega), (bn_prod (by omega) b2' b2').mono (by omega), fun u5 G6 s5 h5 => ?_⟩
    obtain ⟨a5, rfl, ha5⟩ := h5
    refine ⟨_, rfl, a5, _, (m : Int), _, rfl, rfl, SqL.of ha5, atI_nI (k := m) rfl (by rw [prodL_len, lM]; omega), ?_⟩
    have ec : (prodL (midL (dialL p m)) (prodL (sideL (dialL p m)) (sideL (dialL p m)))).getD m 0 = cntE p m := by
      unfold cntE
      rw [prodL_get, prodL_get, if_pos (by omega), if_pos (by rw [prodL_len]; omega), cvS_comm]
    rw [ec]
    exact k _ (s0.trans (sg2.trans (sg4.trans (s3.trans s5))))
theorem sc_law : FnScope ["_law_script", "_law_pen_here", "_law_turn", "_law_prime", "_law_most"] ["_law_script"] (defScope s_law) := ⟨rfl, rfl, rfl, by decide +kernel, rfl, by decide +kernel, by decide +kernel⟩
theorem dial_one : ∀ p ∈ ([2, 2, 3, 5, 7, 11, 13, 17, 47, 89, 97] : List Nat), (((List.range p).map fun v : Nat => ft (p : Int) (v : Int)).count (0 : Int)) = 1 ∧ p ≤ 97 := by decide +kernel
theorem dial_get0 (p m : Nat) : (dialL p m).getD 0 0 = ((((List.range p).map fun v : Nat => ft (p : Int) (v : Int)).count (0 : Int) : Nat) : Int) := by
  rw [dialL, getD_map_range, if_pos (by omega)]
  rfl
theorem law_ok {f : Addr} {fd : FuncData} (F : Fun K "law" "law" s_law f fd) (B : Blt mg) (C__law_pen : Cal P w K mg base 1 "_law_pen" (sp__law_pen K)) (C__law_draw : Cal P w K mg base 1 "_law_draw" sp__law_draw) (C__law_pick : Cal P w K mg base 2 "_law_pick" sp__law_pick) (C_count_effects : Cal P w K mg base 3 "count_effects" (sp_count_effects K)) (C__law_count : Cal P w K mg base 2 "_law_count" (sp__law_count K)) : Kept P w K mg base f fd ["_law_script"] (sp_law K) := by
  refine kept_of (k := 3) F sc_law (fun vs H Q E h => ?_) ⟨rfl, by decide, by decide⟩ (fun cdv s H vs Q E hr h => ?_)
  · obtain ⟨a, ns, rfl, _⟩ := h
    rfl
  · obtain ⟨a, ns, rfl, hS, hlen, k⟩ := h
    have nd := sc_law.nd
    have hu2 := hr.units
    have hg : (callerA.deeper (envOfC "law" (defScope s_law) s.heap.objs.size f cdv)).guards = some [] := rfl
    have hu0 : (callerA.deeper (envOfC "law" (defScope s_law) s.heap.objs.size f cdv)).units + 100 < cLine := by
      have := hr.un
      omega
    refine ⟨_, (pss_cons (ps_set (i := 1) nd rfl (.inl rfl) (pe_c C__law_pen hr (by decide) (by rfl) (pa_cons (pv 0) pa_nil)))
    (pss_cons (ps_for PassesOwn.never rfl (pi_range1 (by rfl) B.range (pa_cons (pe_op op_add pe_int (pe_callB (call_min2 rfl) (by rfl) B.min (by decide +kernel) (pa_cons pe_int (pa_cons (pe_callB call_len_seq (by rfl) B.len (by decide +kernel) (pa_cons (pv 0) pa_nil)) pa_nil)))) pa_nil)) (pg_name (i := 2) nd rfl (.inl rfl))
      (pss_cons (ps_par (i := 3) (j := 4) (by rfl) nd rfl rfl (by decide) rfl rfl (pa_cons (pe_c C__law_pick hr (by decide) (by rfl) (pa_cons (pv 1) (pa_cons (pe_lst (pa_cons pe_int (pa_cons pe_int (pa_cons pe_int (pa_cons pe_int (pa_cons pe_int (pa_cons pe_int (pa_cons pe_int (pa_cons pe_int (pa_cons pe_int (pa_cons pe_int (pa_cons pe_int pa_nil)))))))))))) pa_nil))) (pa_cons (pe_c C__law_draw hr (by decide) (by rfl) (pa_cons (pv 1) (pa_cons pe_int pa_nil))) pa_nil)) (by rfl))
    (pss_one (ps_if (pt_cmpR op_ne (pe_callB (call_reprX hg hu0) (by rfl) B.repr (by decide +kernel) (pa_cons (pe_c C_count_effects hr (by decide) (by rfl) (pa_cons (pv 3) (pa_cons (pv 4) pa_nil))) pa_nil)) (pe_callB (call_reprX hg hu0) (by rfl) B.repr (by decide +kernel) (pa_cons (pe_c C__law_count hr (by decide) (by rfl) (pa_cons (pv 3) (pa_cons (pv 4) pa_nil))) pa_nil)) (nomark _))
      (pss_one (ps_ret pe_bl))
      pss_nil))))
    (pss_one (ps_ret pe_bl)))), ?_⟩
    refine ⟨_, rfl, a, ns, rfl, hS, fun p c H1 np s1 pen1 => ?_⟩
    have hS2 := same_l s1 hS
    have hmin : (if ((ns.map V.int).length : Int) < 1 then ((ns.map V.int).length : Int) else 1) ≤ 1 ∧ 0 ≤ (if ((ns.map V.int).length : Int) < 1 then ((ns.map V.int).length : Int) else 1) := by
      split <;> omega
    refine ⟨_, rfl, a, _, rfl, .inl hS2, 1, _, rfl, 1, _, rfl, rfl, _, rfl, ?_⟩
    generalize (if ((ns.map V.int).length : Int) < 1 then ((ns.map V.int).length : Int) else 1) = N at hmin
    refine ⟨by omega, by omega, for_range (lo := 0) (n := (1 + N).toNat) (fun i σ H2 => ∃ (y2 y3 y4 : Option V), σ = [some (.ref a), some (.ref p), y2, y3, y4] ∧ PenAt H2 p c (100 * i)) ⟨_, _, _, rfl, pen1⟩ ?_ ?_⟩
    · rintro i σ H2 hi ⟨y2, y3, y4, rfl, pen2⟩
      refine ⟨_, rfl, sl_of (show 11 ≤ 1000000 by decide), fun o no => ?_⟩
      refine ⟨p, c, o, _, (([2, 2, 3, 5, 7, 11, 13, 17, 47, 89, 97] : List Nat).map fun n : Nat => V.int (n : Int)), rfl, pen2.same (same_new no), by omega, upd_same, (show 0 < 11 by decide), (show 11 ≤ 100000 by decide), fun v H3 hv _ pen3 => ?_⟩
      obtain ⟨q, hq, rfl⟩ := List.mem_map.mp hv
      obtain ⟨hq0, hq9⟩ := dial_one q hq
      refine ⟨_, rfl, p, c, 61, _, rfl, by decide, by decide, pen3, by omega, fun r H4 r0 r9 k4 pen4 => ?_⟩
      refine ⟨_, _, rfl, ?_⟩
      obtain ⟨m, rfl⟩ : ∃ m : Nat, r = (m : Int) := ⟨r.toNat, by omega⟩
      have hm : m ≤ 60 := by omega
      have bd := big_shows (cntE_bd hq9 hm)
      refine ⟨_, rfl, _, rfl, q, m, rfl, hq9, hm, fun H5 s5 => ?_⟩
      refine ⟨_, .int _, rfl, .inl (.int _), bd.1, (fun e => by cases e), Nat.zero_le _, sl_of (Nat.le_trans bd.2 (by decide)), ?_⟩
      refine ⟨_, rfl, _, rfl, q, m, rfl, hq9, hm, by rw [dial_get0, hq0]; rfl, fun H6 s6 => ?_⟩
      refine ⟨_, .int _, rfl, .inl (.int _), bd.1, (fun e => by cases e), Nat.zero_le _, sl_of (Nat.le_trans bd.2 (by decide)), ?_⟩
      refine ⟨rfl, _, rfl, iteNS rfl ?_⟩
      exact ⟨_, _, _, rfl, (pen4.same (s5.trans s6)).mono (by omega)⟩
    · rintro σ H2 ⟨y2, y3, y4, rfl, _⟩
      exact k H2
end
theorem all_mk {l : PySem.W.OpenLaw} {w : World} {K : PySem.W.Frag} {mg : Str → Option Value} {fa : Addr} (hfa : mg "law" = some (.ref fa)) (B : Blt mg)
    (D_fewest_turns : Df K mg "fewest_turns" s_fewest_turns)
    (D_product_of : Df K mg "product_of" s_product_of)
    (D_sum_of : Df K mg "sum_of" s_sum_of)
    (D_delayed : Df K mg "delayed" s_delayed)
    (D_dial_series : Df K mg "dial_series" s_dial_series)
    (D_side_series : Df K mg "side_series" s_side_series)
    (D_middle_series : Df K mg "middle_series" s_middle_series)
    (D_count_effects : Df K mg "count_effects" s_count_effects)
    (D__law_pen : Df K mg "_law_pen" s__law_pen)
    (D__law_draw : Df K mg "_law_draw" s__law_draw)
    (D__law_pick : Df K mg "_law_pick" s__law_pick)
    (D__law_cost : Df K mg "_law_cost" s__law_cost)
    (D__law_joined_counts : Df K mg "_law_joined_counts" s__law_joined_counts)
    (D__law_later : Df K mg "_law_later" s__law_later)
    (D__law_count : Df K mg "_law_count" s__law_count)
    (D_law : Df K mg "law" s_law) : ∃ fd : FuncData, (∀ (s : Shared) (v : Value), BindsTo s fd ⟨[v], []⟩ [("_law_script", v)]) ∧ ∀ base : Heap, K.In base → base.Ns mainGlobals mg → Kept l.prog w K mg base fa fd ["_law_script"] (sp_law K) := by
  refine law_of hfa D_law (fun _ _ _ _ _ _ s v => .of_eq rfl) fun base f fd F => ?_
  have C_fewest_turns : Cal l.prog w K mg base 1 "fewest_turns" sp_fewest_turns := cal_of (ps := ["prime", "value"]) D_fewest_turns (fun _ _ _ _ _ _ us hl => match us, hl with | [_, _], _ => rfl) fun f fd F => ok_fewest_turns F B
  have C_product_of : Cal l.prog w K mg base 1 "product_of" (sp_product_of K) := cal_of (ps := ["one", "other"]) D_product_of (fun _ _ _ _ _ _ us hl => match us, hl with | [_, _], _ => rfl) fun f fd F => ok_product_of F B
  have C_sum_of : Cal l.prog w K mg base 1 "sum_of" (sp_sum_of K) := cal_of (ps := ["one", "other", "factor"]) D_sum_of (fun _ _ _ _ _ _ us hl => match us, hl with | [_, _, _], _ => rfl) fun f fd F => ok_sum_of F B
  have C_delayed : Cal l.prog w K mg base 1 "delayed" (sp_delayed K) := cal_of (ps := ["series", "by"]) D_delayed (fun _ _ _ _ _ _ us hl => match us, hl with | [_, _], _ => rfl) fun f fd F => ok_delayed F B
  have C_dial_series : Cal l.prog w K mg base 2 "dial_series" (sp_dial_series K) := cal_of (ps := ["prime", "size"]) D_dial_series (fun _ _ _ _ _ _ us hl => match us, hl with | [_, _], _ => rfl) fun f fd F => ok_dial_series F B C_fewest_turns
  have C_side_series : Cal l.prog w K mg base 2 "side_series" (sp_side_series K) := cal_of (ps := ["dial"]) D_side_series (fun _ _ _ _ _ _ us hl => match us, hl with | [_], _ => rfl) fun f fd F => ok_side_series F B C_product_of C_sum_of C_delayed
  have C_middle_series : Cal l.prog w K mg base 2 "middle_series" (sp_middle_series K) := cal_of (ps := ["dial"]) D_middle_series (fun _ _ _ _ _ _ us hl => match us, hl with | [_], _ => rfl) fun f fd F => ok_middle_series F B C_product_of C_sum_of C_delayed
  have C_count_effects : Cal l.prog w K mg base 3 "count_effects" (sp_count_effects K) := cal_of (ps := ["prime", "size"]) D_count_effects (fun _ _ _ _ _ _ us hl => match us, hl with | [_, _], _ => rfl) fun f fd F => ok_count_effects F B C_dial_series C_side_series C_product_of C_middle_series
  have C__law_pen : Cal l.prog w K mg base 1 "_law_pen" (sp__law_pen K) := cal_of (ps := ["_law_script"]) D__law_pen (fun _ _ _ _ _ _ us hl => match us, hl with | [_], _ => rfl) fun f fd F => ok__law_pen F B
  have C__law_draw : Cal l.prog w K mg base 1 "_law_draw" sp__law_draw := cal_of (ps := ["_law_pen_here", "_law_many"]) D__law_draw (fun _ _ _ _ _ _ us hl => match us, hl with | [_, _], _ => rfl) fun f fd F => ok__law_draw F B
  have C__law_pick : Cal l.prog w K mg base 2 "_law_pick" sp__law_pick := cal_of (ps := ["_law_pen_here", "_law_options"]) D__law_pick (fun _ _ _ _ _ _ us hl => match us, hl with | [_, _], _ => rfl) fun f fd F => ok__law_pick F B C__law_draw
  have C__law_cost : Cal l.prog w K mg base 1 "_law_cost" sp_cost0 := cal_of (ps := ["_law_prime", "_law_coefficient"]) D__law_cost (fun _ _ _ _ _ _ us hl => match us, hl with | [_, _], _ => rfl) fun f fd F => ok__law_cost F B
  have C__law_joined_counts : Cal l.prog w K mg base 1 "_law_joined_counts" (sp_product_of K) := cal_of (ps := ["_law_one", "_law_other"]) D__law_joined_counts (fun _ _ _ _ _ _ us hl => match us, hl with | [_, _], _ => rfl) fun f fd F => ok__law_joined_counts F B
  have C__law_later : Cal l.prog w K mg base 1 "_law_later" (sp_delayed K) := cal_of (ps := ["_law_counts", "_law_more"]) D__law_later (fun _ _ _ _ _ _ us hl => match us, hl with | [_, _], _ => rfl) fun f fd F => ok__law_later F B
  have C__law_count : Cal l.prog w K mg base 2 "_law_count" (sp__law_count K) := cal_of (ps := ["_law_prime", "_law_most"]) D__law_count (fun _ _ _ _ _ _ us hl => match us, hl with | [_, _], _ => rfl) fun f fd F => ok__law_count F B C__law_cost C__law_later C__law_joined_counts
  exact law_ok F B C__law_pen C__law_draw C__law_pick C_count_effects C__law_count
end DR
open PySem PySem.W PyProof.Rows
set_option maxRecDepth 100000 in
set_option maxHeartbeats 0 in
theorem PySem.Challenge.cw_dialroad_k60_counts_from_both_sides_holds : PySem.Challenge.rw_dialroad_k60_counts_from_both_sides.Holds := by
  w_on; o_law; k_head; (case hw => w_witness2)
  k_fill
  refine DR.walk_kept (l := PySem.Challenge.rw_dialroad_k60_counts_from_both_sides) (sp := DR.sp_law) (x := "_law_script") rfl rfl (fun w h Y => PySem.W.kIn_of Y) ?F fun K H a ns hl hS => ⟨a, ns, rfl, hS, hl, fun _ => rfl⟩
  case F =>
    intro w mg fa h KX G hmg
    refine' DR.all_mk hmg ⟨PySem.W.mg_none_of KX G ?z_tuple, PySem.W.mg_none_of KX G ?z_sorted, PySem.W.mg_none_of KX G ?z_range, PySem.W.mg_none_of KX G ?z_list, PySem.W.mg_none_of KX G ?z_len, PySem.W.mg_none_of KX G ?z_abs, PySem.W.mg_none_of KX G ?z_repr, PySem.W.mg_none_of KX G ?z_int, PySem.W.mg_none_of KX G ?z_bool, PySem.W.mg_none_of KX G ?z_dict, PySem.W.mg_none_of KX G ?z_min, PySem.W.mg_none_of KX G ?z_max, PySem.W.mg_none_of KX G ?z_zip, PySem.W.mg_none_of KX G ?z_all, PySem.W.mg_none_of KX G ?z_isinstance, PySem.W.mg_none_of KX G ?z_sum, PySem.W.mg_none_of KX G ?z_any, PySem.W.mg_none_of KX G ?z_str, PySem.W.mg_none_of KX G ?z_set⟩ ?D_fewest_turns ?D_product_of ?D_sum_of ?D_delayed ?D_dial_series ?D_side_series ?D_middle_series ?D_count_effects ?D__law_pen ?D__law_draw ?D__law_pick ?D__law_cost ?D__law_joined_counts ?D__law_later ?D__law_count ?D_law
    (case z_tuple => k_is)
    (case z_sorted => k_is)
    (case z_range => k_is)
    (case z_list => k_is)
    (case z_len => k_is)
    (case z_abs => k_is)
    (case z_repr => k_is)
    (case z_int => k_is)
    (case z_bool => k_is)
    (case z_dict => k_is)
    (case z_min => k_is)
    (case z_max => k_is)
    (case z_zip => k_is)
    (case z_all => k_is)
    (case z_isinstance => k_is)
    (case z_sum => k_is)
    (case z_any => k_is)
    (case z_str => k_is)
    (case z_set => k_is)
    (case D_fewest_turns => refine' DR.df_mk KX G ?a ?l ?c ?k; (case a => k_is); (case l => k_is); (case c => k_is); (case k => k_is))
    (case D_product_of => refine' DR.df_mk KX G ?a ?l ?c ?k; (case a => k_is); (case l => k_is); (case c => k_is); (case k => k_is))
    (case D_sum_of => refine' DR.df_mk KX G ?a ?l ?c ?k; (case a => k_is); (case l => k_is); (case c => k_is); (case k => k_is))
    (case D_delayed => refine' DR.df_mk KX G ?a ?l ?c ?k; (case a => k_is); (case l => k_is); (case c => k_is); (case k => k_is))
    (case D_dial_series => refine' DR.df_mk KX G ?a ?l ?c ?k; (case a => k_is); (case l => k_is); (case c => k_is); (case k => k_is))
    (case D_side_series => refine' DR.df_mk KX G ?a ?l ?c ?k; (case a => k_is); (case l => k_is); (case c => k_is); (case k => k_is))
    (case D_middle_series => refine' DR.df_mk KX G ?a ?l ?c ?k; (case a => k_is); (case l => k_is); (case c => k_is); (case k => k_is))
    (case D_count_effects => refine' DR.df_mk KX G ?a ?l ?c ?k; (case a => k_is); (case l => k_is); (case c => k_is); (case k => k_is))
    (case D__law_pen => refine' DR.df_mk KX G ?a ?l ?c ?k; (case a => k_is); (case l => k_is); (case c => k_is); (case k => k_is))
    (case D__law_draw => refine' DR.df_mk KX G ?a ?l ?c ?k; (case a => k_is); (case l => k_is); (case c => k_is); (case k => k_is))
    (case D__law_pick => refine' DR.df_mk KX G ?a ?l ?c ?k; (case a => k_is); (case l => k_is); (case c => k_is); (case k => k_is))
    (case D__law_cost => refine' DR.df_mk KX G ?a ?l ?c ?k; (case a => k_is); (case l => k_is); (case c => k_is); (case k => k_is))
    (case D__law_joined_counts => refine' DR.df_mk KX G ?a ?l ?c ?k; (case a => k_is); (case l => k_is); (case c => k_is); (case k => k_is))
    (case D__law_later => refine' DR.df_mk KX G ?a ?l ?c ?k; (case a => k_is); (case l => k_is); (case c => k_is); (case k => k_is))
    (case D__law_count => refine' DR.df_mk KX G ?a ?l ?c ?k; (case a => k_is); (case l => k_is); (case c => k_is); (case k => k_is))
    (case D_law => refine' DR.df_mk KX G ?a ?l ?c ?k; (case a => k_is); (case l => k_is); (case c => k_is); (case k => k_is))
