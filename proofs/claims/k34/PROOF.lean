import PyProof.Rows.All
import Wide.All
import OpenK.AllK
import Wide.FinOn
import HandS.Base
import HandS.Call
import HandS.List
import HandS.Comp
import HandS.Dict
import HandS.Iter
import HandS.Ends
import HandS.Words
import HandS.More
import HandS.Wide
import HandS.TupAny
import HandS.IsInst
import HandS.Zip
import HandS.Flow
import HandS.ForMost
import HandS.NoneIn
import HandS.SortInts
import PyProof.ReprRoads
import PyProof.ReprLen
import HandS.TupLe
import HandS.Style
import HandS.Walk
import HandS.ListItems
import HandS.Sort
import PySem.Challenge.RW_dialroad_k34_whole_dials_add_up
set_option Elab.async false
set_option linter.all false
set_option maxRecDepth 100000
set_option maxHeartbeats 4000000
set_option exponentiation.threshold 500
/-! Polynomials as lists of pairs (exponent, coefficient): what they are worth, and when two of them are one. -/
namespace DR
abbrev Pol := List (Int × Int)
/-- the sum of the coefficients at e -/
def cf : Pol → Int → Int
  | [], _ => 0
  | t :: r, e => (if t.1 = e then t.2 else 0) + cf r e
theorem cf_nil (e : Int) : cf [] e = 0 := rfl
theorem cf_cons (t : Int × Int) (r : Pol) (e : Int) : cf (t :: r) e = (if t.1 = e then t.2 else 0) + cf r e := rfl
theorem cf_append : ∀ (f g : Pol) (e : Int), cf (f ++ g) e = cf f e + cf g e
  | [], g, e => by simp [cf]
  | t :: r, g, e => by
    rw [List.cons_append, cf_cons, cf_cons, cf_append r g e]
    omega
theorem cf_none : ∀ (f : Pol) (e : Int), (∀ t ∈ f, t.1 ≠ e) → cf f e = 0
  | [], _, _ => rfl
  | t :: r, e, h => by
    rw [cf_cons, if_neg (h t List.mem_cons_self), cf_none r e fun u hu => h u (List.mem_cons_of_mem _ hu)]
    rfl
theorem cf_ne {f : Pol} {e : Int} (h : cf f e ≠ 0) : ∃ t ∈ f, t.1 = e := by
  refine Classical.byContradiction fun q => h (cf_none f e fun t ht z => q ⟨t, ht, z⟩)
/-- canonical: ascending, coefficients from 1 to p - 1, worth F modulo p -/
structure Nf (p : Int) (g : Pol) (F : Int → Int) : Prop where
  asc : g.Pairwise fun x y => x.1 < y.1
  rng : ∀ t ∈ g, 0 < t.2 ∧ t.2 < p
  cof : ∀ e, cf g e = F e % p
theorem cf_head {t : Int × Int} {r : Pol} (h : (t :: r).Pairwise fun x y => x.1 < y.1) : cf (t :: r) t.1 = t.2 := by
  rw [cf_cons, if_pos rfl, cf_none r t.1 fun u hu z => ?_]
  · omega
  · have := (List.pairwise_cons.mp h).1 u hu
    omega
theorem asc_le {t : Int × Int} {r : Pol} (h : (t :: r).Pairwise fun x y => x.1 < y.1) {u : Int × Int} (hu : u ∈ t :: r) : t.1 ≤ u.1 := by
  rcases List.mem_cons.mp hu with e | e
  · rw [e]
    exact Int.le_refl _
  · exact Int.le_of_lt ((List.pairwise_cons.mp h).1 u e)
theorem cf_mem : ∀ {g : Pol}, (g.Pairwise fun x y => x.1 < y.1) → ∀ t ∈ g, cf g t.1 = t.2
  | [], _, t, h => absurd h List.not_mem_nil
  | u :: r, hp, t, h => by
    rcases List.mem_cons.mp h with e | e
    · rw [e]
      exact cf_head hp
    · have hlt := (List.pairwise_cons.mp hp).1 t e
      rw [cf_cons, if_neg (by omega), cf_mem (List.pairwise_cons.mp hp).2 t e]
      omega
theorem asc_ext : ∀ {g g' : Pol}, (g.Pairwise fun x y => x.1 < y.1) → (g'.Pairwise fun x y => x.1 < y.1) → (∀ t ∈ g, t.2 ≠ 0) → (∀ t ∈ g', t.2 ≠ 0) → (∀ e, cf g e = cf g' e) → g = g'
  | [], [], _, _, _, _, _ => rfl
  | [], u :: s, _, h', _, n', c => by
    have := c u.1
    rw [cf_head h'] at this
    exact absurd this.symm (n' u List.mem_cons_self)
  | t :: r, [], h, _, n, _, c => by
    have := c t.1
    rw [cf_head h] at this
    exact absurd this (n t List.mem_cons_self)
  | t :: r, u :: s, h, h', n, n', c => by
    have a1 : t.1 = u.1 := by
      have e1 := c t.1
      rw [cf_head h] at e1
      obtain ⟨x, hx, ex⟩ := cf_ne (f := u :: s) (e := t.1) (by rw [← e1]; exact n t List.mem_cons_self)
      have e2 := c u.1
      rw [cf_head h'] at e2
      obtain ⟨y, hy, ey⟩ := cf_ne (f := t :: r) (e := u.1) (by rw [e2]; exact n' u List.mem_cons_self)
      have l1 := asc_le h' hx
      have l2 := asc_le h hy
      omega
    have a2 : t.2 = u.2 := by
      have e1 := c t.1
      rw [cf_head h, a1, cf_head h'] at e1
      exact e1
    have e : t = u := Prod.ext a1 a2
    subst e
    congr 1
    refine asc_ext (List.pairwise_cons.mp h).2 (List.pairwise_cons.mp h').2 (fun x hx => n x (List.mem_cons_of_mem _ hx)) (fun x hx => n' x (List.mem_cons_of_mem _ hx)) fun e => ?_
    have := c e
    rw [cf_cons, cf_cons] at this
    omega
theorem Nf.uniq {p : Int} {g g' : Pol} {F F' : Int → Int} (a : Nf p g F) (b : Nf p g' F') (h : ∀ e, F e % p = F' e % p) : g = g' :=
  asc_ext a.asc b.asc (fun t ht => by have := a.rng t ht; omega) (fun t ht => by have := b.rng t ht; omega) fun e => by rw [a.cof, b.cof, h]
theorem Nf.to {p : Int} {g : Pol} {F F' : Int → Int} (a : Nf p g F) (h : ∀ e, F e % p = F' e % p) : Nf p g F' := ⟨a.asc, a.rng, fun e => by rw [a.cof, h]⟩
theorem Nf.self {p : Int} {g : Pol} {F : Int → Int} (a : Nf p g F) : Nf p g (cf g) := a.to fun e => by rw [a.cof, Int.emod_emod]
/-- every exponent of g is one of f's, where g is worth nothing where f has no exponent -/
theorem Nf.sub {p : Int} {g : Pol} {F : Int → Int} (a : Nf p g F) {L : List Int} (h : ∀ e, e ∉ L → F e % p = 0) : ∀ t ∈ g, t.1 ∈ L := fun t ht => by
  refine Classical.byContradiction fun n => ?_
  have e1 := a.cof t.1
  rw [cf_mem a.asc t ht, h _ n] at e1
  have := (a.rng t ht).1
  omega
theorem nd_len : ∀ {L M : List Int}, L.Nodup → (∀ x ∈ L, x ∈ M) → L.length ≤ M.length
  | [], M, _, _ => Nat.zero_le _
  | x :: L, M, h, s => by
    have hx : x ∈ M := s x List.mem_cons_self
    have n := (List.nodup_cons.mp h)
    have := nd_len (L := L) (M := M.erase x) n.2 fun y hy => by
      have hne : y ≠ x := fun e => n.1 (e ▸ hy)
      exact (List.mem_erase_of_ne hne).mpr (s y (List.mem_cons_of_mem _ hy))
    rw [List.length_erase_of_mem hx] at this
    have hp : 0 < M.length := List.length_pos_of_mem hx
    rw [List.length_cons]
    omega
theorem asc_nodup {g : Pol} (h : g.Pairwise fun x y => x.1 < y.1) : (g.map (·.1)).Nodup := by
  rw [List.nodup_iff_pairwise_ne, List.pairwise_map]
  exact h.imp fun q => by omega
theorem Nf.len {p : Int} {g : Pol} {F : Int → Int} (a : Nf p g F) {L : List Int} (h : ∀ e, e ∉ L → F e % p = 0) : g.length ≤ L.length := by
  have := nd_len (asc_nodup a.asc) (M := L) fun x hx => by
    obtain ⟨t, ht, rfl⟩ := List.mem_map.mp hx
    exact a.sub h t ht
  rw [List.length_map] at this
  exact this
theorem cf_out {f : Pol} {e : Int} (h : e ∉ f.map (·.1)) : cf f e = 0 := cf_none f e fun t ht z => h (z ▸ List.mem_map_of_mem ht)
/-! a dict of ints, by its pairs -/
def put : Pol → Int → Int → Pol
  | [], e, v => [(e, v)]
  | t :: r, e, v => if t.1 = e then (e, v) :: r else t :: put r e v
theorem put_keys : ∀ (m : Pol) (e v x : Int), x ∈ (put m e v).map (·.1) → x = e ∨ x ∈ m.map (·.1)
  | [], e, v, x, h => by
    have : x = e := by simpa [put] using h
    exact .inl this
  | t :: r, e, v, x, h => by
    unfold put at h
    split at h
    · rename_i q
      rcases List.mem_cons.mp h with z | z
      · exact .inl z
      · exact .inr (List.mem_cons_of_mem _ z)
    · rcases List.mem_cons.mp h with z | z
      · exact .inr (by rw [z]; exact List.mem_cons_self)
      · rcases put_keys r e v x z with w | w
        · exact .inl w
        · exact .inr (List.mem_cons_of_mem _ w)
theorem put_nodup : ∀ (m : Pol) (e v : Int), (m.map (·.1)).Nodup → ((put m e v).map (·.1)).Nodup
  | [], e, v, _ => by simp [put]
  | t :: r, e, v, h => by
    have h' : (t.1 :: r.map (·.1)).Nodup := h
    have n := List.nodup_cons.mp h'
    unfold put
    split
    · rename_i q
      show (e :: r.map (·.1)).Nodup
      rw [← q]
      exact h'
    · rename_i q
      show (t.1 :: (put r e v).map (·.1)).Nodup
      refine List.nodup_cons.mpr ⟨fun z => ?_, put_nodup r e v n.2⟩
      rcases put_keys r e v t.1 z with w | w
      · exact q w
      · exact n.1 w
theorem put_cf : ∀ (m : Pol) (e v x : Int), (m.map (·.1)).Nodup → cf (put m e v) x = if x = e then v else cf m x
  | [], e, v, x, _ => by
    show (if e = x then v else 0) + 0 = _
    by_cases q : x = e
    · rw [if_pos q, if_pos q.symm]
      omega
    · rw [if_neg q, if_neg (fun z => q z.symm)]
      rfl
  | t :: r, e, v, x, h => by
    have h' : (t.1 :: r.map (·.1)).Nodup := h
    have n := List.nodup_cons.mp h'
    unfold put
    split
    · rename_i q
      rw [cf_cons, cf_cons]
      by_cases z : x = e
      · rw [if_pos z, if_pos z.symm, cf_out (f := r) (e := x) (by rw [z, ← q]; exact n.1)]
        omega
      · rw [if_neg z, if_neg (fun w => z w.symm), if_neg (fun w => z (w.symm.trans q))]
    · rename_i q
      rw [cf_cons, cf_cons, put_cf r e v x n.2]
      by_cases z : x = e
      · rw [if_pos z, if_pos z, if_neg (by omega)]
        omega
      · rw [if_neg z, if_neg z]
theorem put_len : ∀ (m : Pol) (e v : Int), (put m e v).length ≤ m.length + 1
  | [], _, _ => Nat.le_refl _
  | t :: r, e, v => by
    unfold put
    split
    · exact Nat.le_succ _
    · have := put_len r e v
      rw [List.length_cons, List.length_cons]
      omega
/-! what the sorted keys give -/
def kept (p : Int) (F : Int → Int) (ys : List Int) : Pol := (ys.filter fun e => decide (F e % p ≠ 0)).map fun e => (e, F e % p)
theorem kept_nil (p : Int) (F : Int → Int) : kept p F [] = [] := rfl
theorem kept_snoc (p : Int) (F : Int → Int) (ys : List Int) (e : Int) : kept p F (ys ++ [e]) = kept p F ys ++ (if F e % p ≠ 0 then [(e, F e % p)] else []) := by
  unfold kept
  rw [List.filter_append, List.map_append]
  congr 1
  by_cases h : F e % p ≠ 0
  · rw [if_pos h]
    simp [h]
  · rw [if_neg h]
    have : F e % p = 0 := Classical.byContradiction h
    simp [this]
theorem kept_cf (p : Int) (F : Int → Int) : ∀ (ys : List Int) (x : Int), ys.Nodup → cf (kept p F ys) x = if x ∈ ys then F x % p else 0
  | [], x, _ => by simp [kept, cf]
  | y :: r, x, h => by
    have n := List.nodup_cons.mp h
    have ih := kept_cf p F r x n.2
    have e : kept p F (y :: r) = (if F y % p ≠ 0 then [(y, F y % p)] else []) ++ kept p F r := by
      unfold kept
      rw [List.filter_cons]
      by_cases q : F y % p ≠ 0
      · simp [q]
      · have : F y % p = 0 := Classical.byContradiction q
        simp [this]
    rw [e, cf_append, ih]
    by_cases z : x = y
    · subst z
      rw [if_neg n.1, if_pos List.mem_cons_self]
      by_cases q : F x % p ≠ 0
      · rw [if_pos q]
        simp [cf]
      · rw [if_neg q]
        have : F x % p = 0 := Classical.byContradiction q
        rw [this]
        rfl
    · have : cf (if F y % p ≠ 0 then [(y, F y % p)] else []) x = 0 := by
        refine cf_none _ _ fun t ht w => ?_
        split at ht
        · have : t = (y, F y % p) := by simpa using ht
          rw [this] at w
          exact z w.symm
        · cases ht
      rw [this]
      by_cases q : x ∈ r
      · rw [if_pos q, if_pos (List.mem_cons_of_mem _ q)]
        omega
      · rw [if_neg q, if_neg (fun w => (List.mem_cons.mp w).elim z q)]
        rfl
theorem le_nd_lt : ∀ {ys : List Int}, ys.Pairwise (· ≤ ·) → ys.Nodup → ys.Pairwise (· < ·)
  | [], _, _ => .nil
  | y :: r, h, n => by
    have a := List.pairwise_cons.mp h
    have b := List.nodup_cons.mp n
    refine List.pairwise_cons.mpr ⟨fun z hz => ?_, le_nd_lt a.2 b.2⟩
    have := a.1 z hz
    have : y ≠ z := fun q => b.1 (q ▸ hz)
    omega
theorem kept_nf {p : Int} {F : Int → Int} {ys : List Int} (hp : 0 < p) (h : ys.Pairwise (· ≤ ·)) (n : ys.Nodup) (z : ∀ e, e ∉ ys → F e % p = 0) : Nf p (kept p F ys) F := by
  refine ⟨?_, fun t ht => ?_, fun e => ?_⟩
  · unfold kept
    rw [List.pairwise_map]
    exact (le_nd_lt h n).sublist List.filter_sublist
  · unfold kept at ht
    obtain ⟨e, he, rfl⟩ := List.mem_map.mp ht
    have q := of_decide_eq_true (List.mem_filter.mp he).2
    have h1 := Int.emod_nonneg (F e) (show p ≠ 0 by omega)
    have h2 := Int.emod_lt_of_pos (F e) hp
    exact ⟨by show 0 < F e % p; omega, h2⟩
  · rw [kept_cf p F ys e n]
    by_cases q : e ∈ ys
    · rw [if_pos q]
    · rw [if_neg q, z e q]
theorem kept_len (p : Int) (F : Int → Int) (ys : List Int) : (kept p F ys).length ≤ ys.length := by
  unfold kept
  rw [List.length_map]
  exact List.length_filter_le _ _
/-! the sums that the functions make -/
theorem cf_scale (k : Int) : ∀ (f : Pol) (e : Int), cf (f.map fun t => (t.1, t.2 * k)) e = cf f e * k
  | [], e => by simp [cf]
  | t :: r, e => by
    rw [List.map_cons, cf_cons, cf_cons, cf_scale k r e, Int.add_mul]
    show (if t.1 = e then t.2 * k else 0) + _ = _
    by_cases h : t.1 = e
    · rw [if_pos h, if_pos h]
    · rw [if_neg h, if_neg h, Int.zero_mul]
def moved (n : Int) (f : Pol) : Pol := f.map fun t => (t.1 + n, t.2)
theorem cf_moved (n : Int) : ∀ (f : Pol) (e : Int), cf (moved n f) e = cf f (e - n)
  | [], e => rfl
  | t :: r, e => by
    show (if t.1 + n = e then t.2 else 0) + cf (moved n r) e = (if t.1 = e - n then t.2 else 0) + cf r (e - n)
    rw [cf_moved n r e]
    by_cases h : t.1 + n = e
    · rw [if_pos h, if_pos (by omega)]
    · rw [if_neg h, if_neg (by omega)]
theorem Nf.moved {p : Int} {g : Pol} {F : Int → Int} (a : Nf p g F) (n : Int) : Nf p (moved n g) (fun e => F (e - n)) := by
  refine ⟨?_, fun t ht => ?_, fun e => by rw [cf_moved, a.cof]⟩
  · unfold DR.moved
    rw [List.pairwise_map]
    exact a.asc.imp fun q => by omega
  · obtain ⟨u, hu, rfl⟩ := List.mem_map.mp (show t ∈ g.map fun t => (t.1 + n, t.2) from ht)
    exact a.rng u hu
/-- 1 at 0, s, .., (n - 1) * s -/
def rounds (n : Nat) (s : Int) : Pol := (List.range n).map fun (m : Nat) => ((m : Int) * s, (1 : Int))
/-- a term times a polynomial; all products of two terms -/
def times (t : Int × Int) (g : Pol) : Pol := g.map fun u => (t.1 + u.1, t.2 * u.2)
def prods (f g : Pol) : Pol := f.flatMap fun t => times t g
theorem prods_nil (g : Pol) : prods [] g = [] := rfl
theorem prods_snoc (f g : Pol) (t : Int × Int) : prods (f ++ [t]) g = prods f g ++ times t g := by
  unfold prods
  rw [List.flatMap_append]
  simp
theorem times_len (t : Int × Int) (g : Pol) : (times t g).length = g.length := by
  unfold times
  rw [List.length_map]
theorem prods_len : ∀ f g : Pol, (prods f g).length = f.length * g.length
  | [], g => by simp [prods]
  | t :: r, g => by
    show (times t g ++ prods r g).length = _
    rw [List.length_append, times_len, prods_len r g, List.length_cons, Nat.add_mul, Nat.one_mul, Nat.add_comm]
theorem prods_mem {f g : Pol} {x : Int × Int} (h : x ∈ prods f g) : ∃ t ∈ f, ∃ u ∈ g, x = (t.1 + u.1, t.2 * u.2) := by
  obtain ⟨t, ht, hx⟩ := List.mem_flatMap.mp h
  obtain ⟨u, hu, rfl⟩ := List.mem_map.mp (show x ∈ g.map fun u => (t.1 + u.1, t.2 * u.2) from hx)
  exact ⟨t, ht, u, hu, rfl⟩
end DR
/-! Products of polynomials: a ring without divisors of zero, modulo a prime. -/
namespace DR
/-- what the products of two polynomials are worth at e -/
def conv : Pol → (Int → Int) → Int → Int
  | [], _, _ => 0
  | t :: r, G, e => t.2 * G (e - t.1) + conv r G e
theorem cf_times (t : Int × Int) : ∀ (g : Pol) (e : Int), cf (times t g) e = t.2 * cf g (e - t.1)
  | [], e => by simp [times, cf]
  | u :: r, e => by
    show (if t.1 + u.1 = e then t.2 * u.2 else 0) + cf (times t r) e = t.2 * ((if u.1 = e - t.1 then u.2 else 0) + cf r (e - t.1))
    rw [cf_times t r e, Int.mul_add]
    by_cases h : t.1 + u.1 = e
    · rw [if_pos h, if_pos (by omega)]
    · rw [if_neg h, if_neg (by omega), Int.mul_zero]
theorem cf_prods : ∀ (f g : Pol) (e : Int), cf (prods f g) e = conv f (cf g) e
  | [], g, e => rfl
  | t :: r, g, e => by
    show cf (times t g ++ prods r g) e = _
    rw [cf_append, cf_times, cf_prods r g e]
    rfl
theorem conv_add (G G' : Int → Int) : ∀ (f : Pol) (e : Int), conv f (fun x => G x + G' x) e = conv f G e + conv f G' e
  | [], e => rfl
  | t :: r, e => by
    show t.2 * (G (e - t.1) + G' (e - t.1)) + conv r _ e = (t.2 * G (e - t.1) + conv r G e) + (t.2 * G' (e - t.1) + conv r G' e)
    rw [conv_add G G' r e, Int.mul_add]
    omega
theorem conv_congr {G G' : Int → Int} (h : ∀ x, G x = G' x) : ∀ (f : Pol) (e : Int), conv f G e = conv f G' e
  | [], e => rfl
  | t :: r, e => by
    show t.2 * G (e - t.1) + conv r G e = t.2 * G' (e - t.1) + conv r G' e
    rw [h, conv_congr h r e]
theorem conv_mod {p : Int} {G G' : Int → Int} (h : ∀ x, G x % p = G' x % p) : ∀ (f : Pol) (e : Int), conv f G e % p = conv f G' e % p
  | [], e => rfl
  | t :: r, e => by
    show (t.2 * G (e - t.1) + conv r G e) % p = (t.2 * G' (e - t.1) + conv r G' e) % p
    rw [Int.add_emod, Int.mul_emod, h, conv_mod h r e, ← Int.mul_emod, ← Int.add_emod]
theorem conv_smul (k : Int) (G : Int → Int) : ∀ (f : Pol) (e : Int), conv f (fun x => k * G x) e = k * conv f G e
  | [], e => by show (0 : Int) = k * 0; rw [Int.mul_zero]
  | t :: r, e => by
    show t.2 * (k * G (e - t.1)) + conv r _ e = k * (t.2 * G (e - t.1) + conv r G e)
    rw [conv_smul k G r e, Int.mul_add, Int.mul_left_comm]
/-- a single term added on the right -/
theorem conv_snd (u : Int × Int) (G : Int → Int) (f : Pol) (e : Int) : conv f (fun x => (if u.1 = x then u.2 else 0) + G x) e = u.2 * cf f (e - u.1) + conv f G e := by
  rw [conv_add]
  congr 1
  induction f with
  | nil => show (0 : Int) = u.2 * 0; rw [Int.mul_zero]
  | cons t r ih =>
    show t.2 * (if u.1 = e - t.1 then u.2 else 0) + conv r _ e = u.2 * ((if t.1 = e - u.1 then t.2 else 0) + cf r (e - u.1))
    rw [ih, Int.mul_add]
    by_cases h : u.1 = e - t.1
    · rw [if_pos h, if_pos (by omega), Int.mul_comm]
    · rw [if_neg h, if_neg (by omega), Int.mul_zero, Int.mul_zero]
theorem conv_zero : ∀ (f : Pol) (e : Int), conv f (fun _ => 0) e = 0
  | [], e => rfl
  | t :: r, e => by
    show t.2 * 0 + conv r _ e = 0
    rw [conv_zero r e, Int.mul_zero]
    rfl
/-- both ways about -/
theorem conv_comm : ∀ (g f : Pol) (e : Int), conv f (cf g) e = conv g (cf f) e
  | [], f, e => (conv_congr (G' := fun _ => 0) (fun _ => rfl) f e).trans (conv_zero f e)
  | u :: r, f, e => by
    show conv f (fun x => (if u.1 = x then u.2 else 0) + cf r x) e = u.2 * cf f (e - u.1) + conv r (cf f) e
    rw [conv_snd, conv_comm r f e]
/-- f counts by its worth alone, modulo p -/
theorem conv_fst {p : Int} {f f' : Pol} (h : ∀ x, cf f x % p = cf f' x % p) (g : Pol) (e : Int) : conv f (cf g) e % p = conv f' (cf g) e % p := by
  rw [conv_comm g f, conv_comm g f', conv_mod h g e]
theorem conv_append : ∀ (f f' : Pol) (G : Int → Int) (e : Int), conv (f ++ f') G e = conv f G e + conv f' G e
  | [], f', G, e => by show conv f' G e = 0 + conv f' G e; rw [Int.zero_add]
  | t :: r, f', G, e => by
    show t.2 * G (e - t.1) + conv (r ++ f') G e = (t.2 * G (e - t.1) + conv r G e) + conv f' G e
    rw [conv_append r f' G e]
    omega
theorem conv_times (t : Int × Int) (G : Int → Int) : ∀ (g : Pol) (e : Int), conv (times t g) G e = t.2 * conv g G (e - t.1)
  | [], e => by show (0 : Int) = t.2 * 0; rw [Int.mul_zero]
  | u :: r, e => by
    show (t.2 * u.2) * G (e - (t.1 + u.1)) + conv (times t r) G e = t.2 * (u.2 * G (e - t.1 - u.1) + conv r G (e - t.1))
    rw [conv_times t G r e, Int.mul_add, Int.mul_assoc, show e - (t.1 + u.1) = e - t.1 - u.1 by omega]
theorem conv_assoc : ∀ (f g : Pol) (G : Int → Int) (e : Int), conv (prods f g) G e = conv f (conv g G) e
  | [], g, G, e => rfl
  | t :: r, g, G, e => by
    show conv (times t g ++ prods r g) G e = t.2 * conv g G (e - t.1) + conv r (conv g G) e
    rw [conv_append, conv_times, conv_assoc r g G e]
theorem conv_moved (n : Int) (G : Int → Int) : ∀ (f : Pol) (e : Int), conv (moved n f) G e = conv f G (e - n)
  | [], e => rfl
  | t :: r, e => by
    show t.2 * G (e - (t.1 + n)) + conv (moved n r) G e = t.2 * G (e - n - t.1) + conv r G (e - n)
    rw [conv_moved n G r e, show e - (t.1 + n) = e - n - t.1 by omega]
theorem mul_emod_l (a b p : Int) : a % p * b % p = a * b % p := by rw [Int.mul_emod, Int.emod_emod, ← Int.mul_emod]
theorem add_emod_l (a b p : Int) : (a % p + b) % p = (a + b) % p := Int.emod_add_emod a p b
theorem sub_mod_eq {a b p : Int} (h : (a - b) % p = 0) : a % p = b % p := by
  have : a = b + (a - b) := by omega
  rw [this, Int.add_emod, h, Int.add_zero, Int.emod_emod]
/-- the least exponents' term of a product -/
theorem conv_least {t u : Int × Int} {r s : Pol} (h : (t :: r).Pairwise fun x y => x.1 < y.1) (h' : (u :: s).Pairwise fun x y => x.1 < y.1) : conv (t :: r) (cf (u :: s)) (t.1 + u.1) = t.2 * u.2 := by
  show t.2 * cf (u :: s) (t.1 + u.1 - t.1) + conv r (cf (u :: s)) (t.1 + u.1) = t.2 * u.2
  rw [show t.1 + u.1 - t.1 = u.1 by omega, cf_head h']
  have : ∀ r : Pol, (∀ x ∈ r, t.1 < x.1) → conv r (cf (u :: s)) (t.1 + u.1) = 0 := by
    intro r
    induction r with
    | nil => intro _; rfl
    | cons x r ih =>
      intro hx
      show x.2 * cf (u :: s) (t.1 + u.1 - x.1) + conv r _ _ = 0
      rw [ih fun y hy => hx y (List.mem_cons_of_mem _ hy), cf_none (u :: s) _ fun y hy e => ?_, Int.mul_zero]
      · rfl
      · have l1 := asc_le h' hy
        have l2 := hx x List.mem_cons_self
        omega
  rw [this r (List.pairwise_cons.mp h).1]
  omega
/-- geometric sums close up -/
theorem rounds_succ (n : Nat) (s : Int) : rounds (n + 1) s = rounds n s ++ [((n : Int) * s, 1)] := by
  unfold rounds
  rw [List.range_succ, List.map_append]
  rfl
theorem rounds_tel (s e : Int) : ∀ n : Nat, cf (rounds n s) e - cf (rounds n s) (e - s) = (if 0 = e then 1 else 0) - (if (n : Int) * s = e then 1 else 0)
  | 0 => by
    show (0 : Int) - 0 = _
    simp
  | n + 1 => by
    rw [rounds_succ, cf_append, cf_append, cf_cons, cf_cons, cf_nil, cf_nil]
    have ih := rounds_tel s e n
    show cf (rounds n s) e + ((if (n : Int) * s = e then 1 else 0) + 0) - (cf (rounds n s) (e - s) + ((if (n : Int) * s = e - s then 1 else 0) + 0)) = _
    have e1 : (((n + 1 : Nat) : Int) * s = e) ↔ ((n : Int) * s = e - s) := by
      rw [Int.natCast_add, Int.add_mul]
      constructor <;> intro h <;> omega
    by_cases h1 : (n : Int) * s = e - s
    · rw [if_pos h1, if_pos (e1.mpr h1)]
      omega
    · rw [if_neg h1, if_neg (fun z => h1 (e1.mp z))]
      omega
end DR
/-! Powers: the rounds of an effect added up, forwards and backwards. -/
namespace DR
def upF (F : Int → Int) (m : Int) : Nat → Int → Int
  | 0, _ => 0
  | n + 1, e => upF F m n e + F (e - (n : Int) * m)
def dnF (F : Int → Int) (m : Int) : Nat → Int → Int
  | 0, _ => 0
  | n + 1, e => dnF F m n e + F (e + ((n : Int) + 1) * m)
/-- what c rounds of an effect with the worth F and the shift m turn -/
def pwF (F : Int → Int) (m : Int) : Int → Int → Int
  | .ofNat n, e => upF F m n e
  | .negSucc n, e => - dnF F m (n + 1) e
theorem pw_zero (F : Int → Int) (m e : Int) : pwF F m 0 e = 0 := rfl
theorem pw_succ (F : Int → Int) (m : Int) : ∀ (c e : Int), pwF F m (c + 1) e = pwF F m c e + F (e - c * m)
  | .ofNat n, e => rfl
  | .negSucc 0, e => by
    show pwF F m (Int.negSucc 0 + 1) e = - (0 + F (e + ((0 : Int) + 1) * m)) + F (e - Int.negSucc 0 * m)
    rw [show Int.negSucc 0 + 1 = 0 from rfl, pw_zero, show Int.negSucc 0 = (-1 : Int) from rfl, show e - -1 * m = e + (0 + 1) * m by omega]
    omega
  | .negSucc (n + 1), e => by
    rw [show Int.negSucc (n + 1) + 1 = Int.negSucc n from rfl]
    show - dnF F m (n + 1) e = - (dnF F m (n + 1) e + F (e + (((n + 1 : Nat) : Int) + 1) * m)) + F (e - Int.negSucc (n + 1) * m)
    have h : Int.negSucc (n + 1) = -(((n + 1 : Nat) : Int) + 1) := by omega
    rw [h, Int.neg_mul, Int.sub_neg]
    omega
theorem int_ind {P : Int → Prop} (h0 : P 0) (hs : ∀ c, P c ↔ P (c + 1)) (c : Int) : P c := by
  have up : ∀ n : Nat, P (n : Int) := fun n => by
    induction n with
    | zero => exact h0
    | succ n ih =>
      have := (hs (n : Int)).mp ih
      exact this
  have dn : ∀ n : Nat, P (-(n : Int)) := fun n => by
    induction n with
    | zero => exact h0
    | succ n ih =>
      refine (hs _).mpr ?_
      rw [show -((n + 1 : Nat) : Int) + 1 = -(n : Int) by omega]
      exact ih
  by_cases h : 0 ≤ c
  · have := up c.toNat
    rw [Int.toNat_of_nonneg h] at this
    exact this
  · have := dn (-c).toNat
    rw [Int.toNat_of_nonneg (by omega), Int.neg_neg] at this
    exact this
theorem pw_add (F : Int → Int) (m a : Int) : ∀ (b e : Int), pwF F m (a + b) e = pwF F m a e + pwF F m b (e - a * m) := by
  intro b
  refine int_ind (P := fun b => ∀ e, pwF F m (a + b) e = pwF F m a e + pwF F m b (e - a * m)) (fun e => ?_) (fun c => ?_) b
  · rw [Int.add_zero, pw_zero, Int.add_zero]
  · have key : ∀ e, F (e - (a + c) * m) = F (e - a * m - c * m) := fun e => by
      congr 1
      rw [Int.add_mul]
      omega
    constructor
    · intro h e
      rw [← Int.add_assoc, pw_succ, pw_succ, h e, key]
      omega
    · intro h e
      have h' := h e
      rw [← Int.add_assoc, pw_succ, pw_succ, key] at h'
      omega
theorem pw_neg (F : Int → Int) (m a e : Int) : pwF F m (-a) e = - pwF F m a (e + a * m) := by
  have h := pw_add F m (-a) a e
  rw [Int.add_left_neg, pw_zero, Int.neg_mul, Int.sub_neg] at h
  omega
theorem pw_one (F : Int → Int) (m e : Int) : pwF F m 1 e = F e := by
  show 0 + F (e - ((0 : Nat) : Int) * m) = F e
  rw [Int.zero_add, show e - ((0 : Nat) : Int) * m = e by omega]
theorem pw_congr {F G : Int → Int} (h : ∀ x, F x = G x) (m c e : Int) : pwF F m c e = pwF G m c e := by
  rw [show F = G from funext h]
theorem pw_mod {q : Int} {F G : Int → Int} (h : ∀ x, F x % q = G x % q) (m : Int) : ∀ c e : Int, pwF F m c e % q = pwF G m c e % q := by
  intro c
  refine int_ind (P := fun c => ∀ e, pwF F m c e % q = pwF G m c e % q) (fun e => rfl) (fun c => ?_) c
  constructor
  · intro k e
    rw [pw_succ, pw_succ, Int.add_emod, k e, h, ← Int.add_emod]
  · intro k e
    have e1 := k e
    rw [pw_succ, pw_succ] at e1
    have e2 : pwF F m c e = pwF F m c e + F (e - c * m) - F (e - c * m) := by omega
    have e3 : pwF G m c e = pwF G m c e + G (e - c * m) - G (e - c * m) := by omega
    rw [e2, e3, Int.sub_emod, e1, h (e - c * m), ← Int.sub_emod]
/-- the inverse's rounds are rounds backwards -/
theorem pw_inv (F : Int → Int) (m : Int) : ∀ c e : Int, pwF (fun x => F (x + m) * -1) (-m) c e = pwF F m (-c) e := by
  intro c
  refine int_ind (P := fun c => ∀ e, pwF (fun x => F (x + m) * -1) (-m) c e = pwF F m (-c) e) (fun e => rfl) (fun c => ?_) c
  have key : ∀ e, pwF F m (-c) e = pwF F m (-(c + 1)) e + F (e + c * m + m) := fun e => by
    have h := pw_succ F m (-(c + 1)) e
    rw [show -(c + 1) + 1 = -c by omega, Int.neg_mul, Int.sub_neg, Int.add_mul, Int.one_mul, ← Int.add_assoc] at h
    exact h
  have k2 : ∀ e, F (e - c * -m + m) * -1 = - F (e + c * m + m) := fun e => by
    rw [show e - c * -m + m = e + c * m + m by rw [Int.mul_neg]; omega]
    omega
  constructor
  · intro h e
    rw [pw_succ, h e, k2, key e]
    omega
  · intro h e
    have h' := h e
    rw [pw_succ, k2] at h'
    rw [key e]
    omega
theorem pw_mul (F : Int → Int) (m a : Int) : ∀ b e : Int, pwF (fun x => pwF F m a x) (a * m) b e = pwF F m (a * b) e := by
  intro b
  refine int_ind (P := fun b => ∀ e, pwF (fun x => pwF F m a x) (a * m) b e = pwF F m (a * b) e) (fun e => by rw [Int.mul_zero, pw_zero, pw_zero]) (fun c => ?_) b
  have key : ∀ e, pwF F m (a * (c + 1)) e = pwF F m (a * c) e + pwF F m a (e - c * (a * m)) := fun e => by
    rw [Int.mul_add, Int.mul_one, pw_add, show a * c * m = c * (a * m) by rw [Int.mul_comm a c, Int.mul_assoc]]
  constructor
  · intro h e
    rw [pw_succ, h e, key e]
  · intro h e
    have h' := h e
    rw [pw_succ, key e] at h'
    omega
/-- led by another effect -/
theorem pw_led (F G : Int → Int) (m n : Int) : ∀ b e : Int, pwF (fun x => G (x + n) * -1 + F (x + n) + G (x + n - m)) m b e = G (e + n) * -1 + pwF F m b (e + n) + G (e + n - b * m) := by
  intro b
  refine int_ind (P := fun b => ∀ e, pwF (fun x => G (x + n) * -1 + F (x + n) + G (x + n - m)) m b e = G (e + n) * -1 + pwF F m b (e + n) + G (e + n - b * m)) (fun e => by rw [pw_zero, pw_zero, Int.zero_mul, Int.sub_zero]; omega) (fun c => ?_) b
  have key : ∀ e, G (e - c * m + n) * -1 + F (e - c * m + n) + G (e - c * m + n - m) = G (e + n - c * m) * -1 + F (e + n - c * m) + G (e + n - (c + 1) * m) := fun e => by
    rw [show e - c * m + n = e + n - c * m by omega, show e + n - c * m - m = e + n - (c + 1) * m by rw [Int.add_mul]; omega]
  constructor
  · intro h e
    rw [pw_succ, pw_succ, h e, key]
    omega
  · intro h e
    have h' := h e
    rw [pw_succ, pw_succ, key] at h'
    omega
theorem conv_rounds (f : Pol) (m : Int) : ∀ (n : Nat) (e : Int), conv f (cf (rounds n m)) e = upF (cf f) m n e
  | 0, e => (conv_congr (G' := fun _ => 0) (fun _ => rfl) f e).trans (conv_zero f e)
  | n + 1, e => by
    have h : ∀ x, cf (rounds (n + 1) m) x = (if ((n : Int) * m, (1 : Int)).1 = x then ((n : Int) * m, (1 : Int)).2 else 0) + cf (rounds n m) x := fun x => by
      rw [rounds_succ, cf_append, cf_cons, cf_nil]
      omega
    rw [conv_congr h, conv_snd, conv_rounds f m n e]
    show 1 * cf f (e - (n : Int) * m) + upF (cf f) m n e = upF (cf f) m n e + cf f (e - (n : Int) * m)
    omega
theorem pw_rounds (f : Pol) (m : Int) {c : Int} (h : 0 ≤ c) (e : Int) : conv f (cf (rounds c.toNat m)) e = pwF (cf f) m c e := by
  obtain ⟨n, rfl⟩ : ∃ n : Nat, c = (n : Int) := ⟨c.toNat, by omega⟩
  rw [Int.toNat_natCast, conv_rounds]
  rfl
theorem up_far {F : Int → Int} {m e : Int} : ∀ n : Nat, (∀ k : Int, k.natAbs ≤ n → F (e - k * m) = 0) → upF F m n e = 0
  | 0, _ => rfl
  | n + 1, h => by
    show upF F m n e + F (e - (n : Int) * m) = 0
    rw [up_far n fun k hk => h k (by omega), h (n : Int) (by omega)]
    rfl
theorem dn_far {F : Int → Int} {m e : Int} : ∀ n : Nat, (∀ k : Int, k.natAbs ≤ n → F (e - k * m) = 0) → dnF F m n e = 0
  | 0, _ => rfl
  | n + 1, h => by
    show dnF F m n e + F (e + ((n : Int) + 1) * m) = 0
    have h1 := h (-((n : Int) + 1)) (by omega)
    rw [Int.neg_mul, Int.sub_neg] at h1
    rw [dn_far n fun k hk => h k (by omega), h1]
    rfl
theorem pw_far {F : Int → Int} {m e : Int} : ∀ c : Int, (∀ k : Int, k.natAbs ≤ c.natAbs → F (e - k * m) = 0) → pwF F m c e = 0
  | .ofNat n, h => up_far n h
  | .negSucc n, h => by
    show - dnF F m (n + 1) e = 0
    rw [dn_far (n + 1) h]
    rfl
theorem pw_flat (F : Int → Int) (e : Int) : ∀ c : Int, pwF F 0 c e = c * F e := by
  intro c
  refine int_ind (P := fun c => pwF F 0 c e = c * F e) (by rw [pw_zero, Int.zero_mul]) (fun c => ?_) c
  rw [pw_succ, Int.mul_zero, Int.sub_zero, Int.add_mul, Int.one_mul]
  omega
end DR
/-! What the laws of one document share: a few rules more of the hand layer, and polynomials in the heap. -/
namespace DR
open PySem PySem.Spec PyProof.Rows L2
section
variable {P : Program} {w : World} {A : Around} {E : Value → Shared → Prop}
/-- the second half of `sorted`: the members stand gathered and are ints; they go into a new list, and that is put in order -/
theorem order_ints {now : Shared} {items : List Value} {nums : List Int} {after : PySem.Fin → Shared → Prop} (whole : IntsAre items nums) (room : items.length ≤ sizeLine)
    (next : ∀ (g : Heap) (arr : Array Value) (stamp : Nat) (ys : List Int), (∀ b u, now.heap.get? b = some u → g.get? b = some u) → g.get? now.heap.objs.size = some (seqObj "list" arr stamp) → IntsAre arr.toList ys →
      ys.Perm nums → ys.Pairwise (· ≤ ·) → after (.done (.ret (.ref now.heap.objs.size))) { now with heap := g }) :
    wpAny (model P w) A (do let l ← newList items; let _ ← holding [l] (call (.builtin "list.sort") [l] []); ret l) after E now := by
  have laid : (now.heap.push (seqObj "list" items.toArray 0)).get? now.heap.objs.size = some (seqObj "list" items.toArray 0) := Heap.get?_push_size _ rfl
  have done : ∀ out : List Value, SrtO.Srtd SrtO.ltIv out → SrtO.Stb SrtO.ltIv out items →
      after (.done (.ret (.ref now.heap.objs.size))) { now with heap := sortedHeap (now.heap.push (seqObj "list" items.toArray 0)) now.heap.objs.size items out.toArray } := fun out asc same => by
    obtain ⟨numb, perm, up⟩ := SrtO.ints_out whole asc same
    obtain ⟨stamp, there⟩ := sortedHeap_at (vs := items) (out := out.toArray) laid
    refine next _ out.toArray stamp (out.map SrtO.iv) (fun b u old => ?_) there (by simpa using numb) perm up
    have below : b < now.heap.objs.size := Heap.lt_size old
    have wider : b < (now.heap.push (seqObj "list" items.toArray 0)).objs.size := by
      rw [size_push']
      exact Nat.lt_succ_of_lt below
    exact (sortedHeap_old (Nat.ne_of_lt below) wider).trans (Heap.get?_push_of_some _ old)
  have sorts := SrtO.list_sort_ord (prog := P) (w := w) (A := A.in1) (E := E) (s := { now with heap := now.heap.push (seqObj "list" items.toArray 0) }) (R := fun r s' => r = .done (.ret .none) ∧ ∃ out : List Value, SrtO.Srtd SrtO.ltIv out ∧ SrtO.Stb SrtO.ltIv out items ∧ s' = { now with heap := sortedHeap (now.heap.push (seqObj "list" items.toArray 0)) now.heap.objs.size items out.toArray })
    SrtO.swo_int laid room (fun two => SrtO.ints_sortable whole two) fun out asc same => ⟨rfl, out, asc, same, rfl⟩
  refine wpAny_bind (wpAny_newList (wpAny_bind (wpAny_holding ?_)) room)
  refine wpAny_call_entry slot_list_sort ⟨_, laid, rfl⟩ entry_list_sort ?_ (args_list_sort _)
  refine wpAny_mono sorts (fun r s' told => ?_) fun e s' told => told
  obtain ⟨rfl, out, asc, same, rfl⟩ := told
  exact ⟨_, rfl, wpAny_pure (done out asc same)⟩
end
section
variable {X : Cx}
/-- sorted(d), the keys ints, however many -/
theorem call_sortedDA (calm : X.calm = true) : CallR X (.builtin "sorted") (fun given G K => ∃ (d : Addr) (kvs : List (Key × V)) (ks : List Int), given = [.ref d] ∧ Rd G d (.dK kvs) ∧ kvs.map (·.1) = ks.map Sum.inl ∧
    ∀ (ys : List Int) (p : Addr), ys.Perm ks → (ys.Pairwise fun u v => u ≤ v) → G p = none → K (.ref p) (upd G p (.lst (ys.map V.int)))) := by
  intro pins now σ G given us K I r told
  obtain ⟨d, kvs, ks, rfl, hd, hks, told⟩ := told
  rw [Vals.ref1 r]
  obtain ⟨few, loose, pairs, rel, dd⟩ := dk_rd I.hok hd
  obtain ⟨ep, at_d⟩ := dd.dictAt
  have keys : pairs.map (·.1) = ks.map Sum.inl := hks ▸ rel.keys.symm
  have len : pairs.length = ks.length := by simpa using congrArg List.length keys
  have lkv : kvs.length = ks.length := by simpa using congrArg List.length hks
  have fits : pairs.length ≤ sizeLine := by
    rw [len, ← lkv]
    exact few
  refine Calls.call_function_entry kind_sorted plain_sorted entry_sorted (args_sorted1 _) ?_
  unfold Builtin.«sorted»
  refine wpAny_bind (m := checkCount "sorted" 1 1 _) (wpAny_pure (wpAny_bind (PySem.W.kdu_collect (A := X.A.in1) (PySem.W.kdl_dict (knd := mixKind X.prog X.w) (kvs := pairs) (ep := ep) loose) (I.ok.hd calm) at_d fits fun g1 toks acc kept each => ?_)))
  have lacc : acc.toList.length = ks.length := by rw [Array.length_toList, each.1, len]
  have whole : IntsAre acc.toList ks := ints_each lacc fun j v e => by
    obtain ⟨k, _, here, like⟩ := each.2 j v (by simpa using e)
    have key : (ks.map Sum.inl)[j]? = some k := by rw [← keys, List.getElem?_map, here]; rfl
    rw [List.getElem?_map] at key
    obtain ⟨y, hy, rfl⟩ := Option.map_eq_some_iff.mp key
    rcases keyIs_shape (show keyIs (Sum.inl y) v = true from like) with ⟨i, t, ek, ev⟩ | ⟨_, _, ek, _⟩
    · cases ek
      exact ⟨y, t, hy, ev⟩
    · cases ek
  have I1 : Inv X pins σ G { now with heap := g1, toks := toks } := I.kept kept
  refine order_ints whole (by rw [lacc, ← lkv]; exact few) fun g arr stamp ys old there numb perm up => ?_
  have fit : (ys.map V.int).length ≤ sizeLine := by
    rw [List.length_map, perm.length_eq, ← lkv]
    exact few
  exact ⟨_, rfl, .ref g1.objs.size, _, I1.laid (t' := toks) (o := .lst (ys.map V.int)) old (Nat.le_refl _) ⟨fit, arr.toList, stamp, vals_of_ints numb, there⟩, rfl, told ys _ perm up (I1.hok.fresh (Nat.le_refl _))⟩
/-- repr(x), x data of any depth, where no other repr runs -/
theorem call_reprD (hg : X.A.guards = some []) (hu : X.A.units + 100 < cLine) : CallR X (.builtin "repr") (fun xs H Q => ∃ (x : V) (d : PyData), xs = [x] ∧ (∃ a, x = .ref a) ∧ Dp X.K H x d ∧ d.showable = true ∧ d.hasDict = false ∧ d.depth ≤ 64 ∧ d.shown.length ≤ sizeLine ∧ Q (.str d.shown) H) := by
  intro pins s σ H xs us Q I r h
  obtain ⟨x, d, rfl, ⟨a, rfl⟩, hd, hs, hn, hz, hl, q⟩ := h
  obtain ⟨u, rfl, rx⟩ := vals1 r
  cases rx
  obtain ⟨as, rd⟩ := Dp.reads I d _ _ hd rfl
  refine repr_of_reads' rd hs (fun z => absurd z (by rw [hn]; exact Bool.false_ne_true)) hg (by omega) (fun _ _ e => e) (fun h' t tk hk => ?_) hl
  exact ⟨.str d.shown, H, I.kept hk, ⟨t, rfl⟩, q⟩
end
end DR
namespace DR
open PySem PySem.Spec PyProof.Rows L2
/-! ### the law's own def is called once, by the caller alone: there no repr runs (guards), which FnOk can't say -/
/-- a promise kept where the law is called -/
def Kept (P : Program) (w : World) (K : PySem.W.Frag) (mg : Str → Option Value) (base : Heap) (f : Addr) (fd : FuncData) (ps : List Str) (sp : Sp) : Prop :=
  ∀ (s : Shared) (H : Hp) (args : Args) (us : List Value) (vs : List V) (Q : VK) (E : XK), Env0 P w K mg base callerA [] s H → BindsTo s fd args (ps.zip us) →
    Vals vs us → sp vs H Q E → codeAny (model P w) callerA (.call (.ref f) args) (CR CX0 [] P w H s Q E) s
theorem kept_of {P : Program} {w : World} {K : PySem.W.Frag} {mg : Str → Option Value} {base : Heap} {x qual : Str} {st : Stmt} {f : Addr} {fd : FuncData} {N ps : List Str} {k : Nat} {sp : Sp} (F : Fun K x qual st f fd) (S : FnScope N ps (defScope st))
    (len : ∀ vs H Q E, sp vs H Q E → vs.length = ps.length) (room : Room (k + 1) callerA)
    (body : ∀ (cdv : Value) (s : Shared) (H : Hp) (vs : List V) (Q : VK) (E : XK), Room k (callerA.deeper (envOfC qual (defScope st) s.heap.objs.size f cdv)) → sp vs H Q E →
      ∃ t, PSs (cxOf CX0 P w K mg base N qual (defScope st) f cdv callerA [] s H E).nox (defBody st) t ∧ t { nx := fun _ H' => Q .non H', rt := Q } (start N vs) H) : Kept P w K mg base f fd ps sp := by
  obtain ⟨_, _, _, _, _, _, cdv, _, _, rfl, found, code⟩ := F.ex
  intro s H args us vs Q E e0 hb r hsp
  have hl := len _ _ _ _ hsp
  have kin : K.In s.heap := e0.mod.kin.keeps fun b o e => (e0.bs b o e).1
  have free := e0.mod.nolimit.keeps fun b o e => (e0.bs b o e).1
  have kinds : ∀ y ∈ ps.zip us, (defScope st).names.lookup y.1 = some .local ∨ ((defScope st).names.lookup y.1 = some .cell ∧ ((cellsFrom (s.heap.objs.size + 1) (defScope st).names []).lookup y.1).isSome = true) := by
    rintro ⟨n, v⟩ hy
    exact (S.par n (List.of_mem_zip hy).1).imp_right fun q => ⟨q, PySem.W.cellsFrom_some _ _ _ (.inl q)⟩
  refine codeAny_call_function room.depth (kin _ _ found) rfl S.co S.gen rfl (PySem.W.codeRec_of kin code) (hb _ _ _ _ ?_)
  refine wpAny_newFunctionEnv_cells S.kind kinds fun env he s1 z => ?_
  subst he
  refine ⟨free.keeps z.toInCall.keep, codeAny_func ?_⟩
  obtain ⟨t, ht, hq⟩ := body cdv s H vs Q E (room.deeper _) hsp
  have I : Inv (cxOf CX0 P w K mg base N qual (defScope st) f cdv callerA [] s H E) [] (start N vs) H s1 := inv_start S room.hd e0 hl r z
  refine wpAny_mono (ht.nox.run [] s1 (start N vs) H _ I hq) (fun fl s2 hs => ?_) fun e s2 hs => hs
  cases fl with
  | ret u =>
    obtain ⟨v, _, H', J, rv, q⟩ := hs
    exact ⟨v, H', J.os, J.bare, J.base, J.hok, rv, q⟩
  | next =>
    obtain ⟨_, H', J, q⟩ := hs
    exact ⟨.non, H', J.os, J.bare, J.base, J.hok, rfl, q⟩
  | brk => exact hs.elim fun _ z => z.elim fun _ y => y.2.elim
  | cont => exact hs.elim fun _ z => z.elim fun _ y => y.2.elim
/-- what the judge asks of the law's call -/
abbrev Passed (before : Shared) : Except Value Flow → Shared → Prop := fun r s' => r = .ok (.ret (.bool true)) ∧ OldK before.heap s'.heap ∧ s'.os = before.os ∧ AllBare s'.gens
/-- the names of the module and of the builtins, as they stand before the call -/
structure Stand (K : PySem.W.Frag) (mg mb : Str → Option Value) (before : Shared) : Prop where
  kin : K.In before.heap
  mod : before.heap.Ns mainGlobals mg
  std : before.heap.Ns builtinsNs mb
  boot : ∀ x : Str, x ≠ "__name__" → mb x = bootBuiltins x
  free : before.heap.NoLimit
  none : before.gens = #[]
theorem law_kept {P : Program} {w : World} {K : PySem.W.Frag} {mg mb : Str → Option Value} {fa a : Addr} {fd : FuncData} {x : Str} {sp : Sp} {s₁ : Shared} {vs : List Value} {ns : List Int}
    (W : Stand K mg mb s₁)
    (ha : s₁.heap.get? a = some { cls := .type "list", data := .seq vs.toArray }) (hi : IntsAre vs ns) (hl : ns.length ≤ sizeLine)
    (F : ∀ base : Heap, K.In base → base.Ns mainGlobals mg → Kept P w K mg base fa fd [x] sp) (hbind : ∀ (s : Shared) (u : Value), BindsTo s fd ⟨[u], []⟩ [(x, u)])
    (hsp : ∀ H : Hp, Only H → SqL K H a (ns.map V.int) → sp [.ref a] H (fun v _ => v = .bl true) fun _ _ _ => False) :
    codeAny (model P w) callerA (.call (.ref fa) ⟨[.ref a], []⟩) (Passed s₁) s₁ := by
  have rv := vals_ints hi
  have core : ∀ H : Hp, Only H → SqL K H a (ns.map V.int) → HOk P w H s₁.heap → (∀ b, b ≠ a → H b = none) → (H a = none ∨ K.lookup a = none) →
      codeAny (model P w) callerA (.call (.ref fa) ⟨[.ref a], []⟩) (Passed s₁) s₁ := by
    intro H hO hS ok Hn hK
    have up : ∀ {b : Addr} {o : Obj}, H b = none → s₁.heap.get? b = some o → (hidT s₁.heap H).get? b = some o := fun q e => hidT_get e q
    have ns' : ∀ {b : Addr} {m : Str → Option Value}, s₁.heap.Ns b m → (hidT s₁.heap H).Ns b m := fun {b m} h => by
      obtain ⟨o, es, ep, e, d, r⟩ := h
      refine ⟨o, es, ep, up (Hn b fun q => ?_) e, d, r⟩
      subst q
      rw [ha] at e
      cases e
      exact nomatch d
    have kin : K.In (hidT s₁.heap H) := fun b o e => by
      refine up ?_ (W.kin b o e)
      by_cases q : b = a
      · rcases hK with z | z
        · rw [q]
          exact z
        · rw [q, z] at e
          cases e
      · exact Hn b q
    have M : Mod K mg (hidT s₁.heap H) := ⟨kin, ns' W.mod, ⟨mb, ns' W.std, W.boot⟩, W.free.elim fun mc z => ⟨mc, ns' z.1, z.2⟩⟩
    have e0 : Env0 P w K mg (hidT s₁.heap H) callerA [] s₁ H := ⟨rfl, M, fun b o e => of_hidT e, Nat.le_of_eq (hidT_size _ _), trivial, fun b z => absurd (show b ∈ ([] : List Addr) from z) (by simp), ok, .of_eq W.none⟩
    refine codeAny_mono (F _ kin (ns' W.mod) s₁ H _ [.ref a] [.ref a] _ _ e0 (hbind s₁ (.ref a)) (.cons rfl .nil) (hsp H hO hS)) fun r s' h => ?_
    cases r with
    | error e => exact False.elim h
    | ok fl =>
      cases fl with
      | ret u =>
        obtain ⟨v, H', os, bare, un, ok', r', q⟩ := h
        obtain rfl : v = .bl true := q
        cases r'
        refine ⟨rfl, OldK.of_keep ?_, os, bare⟩
        intro b o e
        obtain z | ⟨ob, xs, z⟩ := hO b
        · exact un.keep b o e z (fun y => absurd (show b ∈ ([] : List Addr) from y) (by simp)) (by simp)
        · have z1 := (ok _ _ z).1
          have z2 := (ok' _ _ (un.frzs _ _ _ z)).1
          rw [e] at z1
          cases z1
          exact z2
      | next => exact False.elim h
      | brk => exact False.elim h
      | cont => exact False.elim h
  cases hk : K.lookup a with
  | none =>
    refine core (fun b => if b = a then some (.frz { cls := .type "list", data := .seq vs.toArray } (.lst (ns.map V.int))) else none) (fun b => ?_) (.inl (.inr ⟨_, if_pos rfl⟩)) (fun b o e => ?_) (fun b e => if_neg e) (.inr hk)
    · by_cases q : b = a
      · exact .inr ⟨_, _, if_pos q⟩
      · exact .inl (if_neg q)
    · by_cases q : b = a
      · have e' := (if_pos q).symm.trans e
        cases e'
        subst q
        have fit : (ns.map V.int).length ≤ sizeLine := (List.length_map _).symm ▸ hl
        exact ⟨ha, fit, vs, _, rv, ha⟩
      · have e' := (if_neg q).symm.trans e
        cases e'
  | some o =>
    have e := W.kin a o hk
    rw [ha] at e
    cases e
    refine core (fun _ => none) (fun _ => .inl rfl) (.inr ⟨_, vs.toArray, _, hk, rfl, rfl, rfl, ?_, by simpa using rv⟩) (fun b u z => ?_) (fun b _ => rfl) (.inl rfl)
    · simpa [hi.length] using hl
    · have z' : (none : Option HO) = some u := z
      cases z'
/-- the end: the law's promise, kept where it is called, closes the walk -/
theorem walk_kept {l : PySem.W.OpenLaw} {q : Program} {loose : List Str} {XP : (Str → Option Value) → Heap → Prop} {YP : World → Heap → Prop} {d : DefRec} {K : Params → PySem.W.Frag} {sp : PySem.W.Frag → Sp} {x : Str}
    (hn : l.most = some 63) (hdf : d.params.defaults = []) (hY : ∀ (w : World) (h : Heap), YP w h → (K w.params).In h)
    (F : ∀ (w : World) (mg : Str → Option Value) (at_ : Addr) (g : Heap), (K w.params).In g → g.Ns mainGlobals mg → mg d.name = some (.ref at_) →
      ∃ fd : FuncData, (∀ (s : Shared) (u : Value), BindsTo s fd ⟨[u], []⟩ [(x, u)]) ∧ ∀ base : Heap, (K w.params).In base → base.Ns mainGlobals mg → Kept l.prog w (K w.params) mg base at_ fd [x] (sp (K w.params)))
    (hsp : ∀ (K : PySem.W.Frag) (H : Hp) (a : Addr) (ns : List Int), ns.length ≤ 63 → SqL K H a (ns.map V.int) → sp K [.ref a] H (fun v _ => v = .bl true) fun _ _ _ => False) :
    PySem.W.WalkO q loose XP YP l.row.toRowW d [] (fun f vs => PySem.call f vs) := by
  refine Att.attach_call hn hdf ?_
  intro w _ _ mg _ fa _ _ _ _ a _ ns G Y _ _ _ hmg hobj hints hlen hg
  obtain ⟨fd, hb, hF⟩ := F w mg fa _ (hY w _ Y) G.T.g hmg
  exact law_kept ⟨hY w _ Y, G.T.g, G.T.b, G.T.builtins, G.T.nolimit, hg⟩ hobj hints (Nat.le_trans hlen (by decide)) hF hb fun H _ hS => hsp _ H a ns hlen hS
end DR
namespace DR
open PySem PySem.Spec PyProof.Rows L2
/-! ### heaps -/
theorem same_new {H : Hp} {p : Addr} {o : HO} (h : H p = none) : Same H (upd H p o) := fun b u e => by
  rw [upd_ne (ne_of_none e h)]
  exact e
/-- what H does not know may change -/
theorem same_mut {H H' : Hp} {p : Addr} {o : HO} (s : Same H H') (h : H p = none) : Same H (upd H' p o) := fun b u e => by
  rw [upd_ne (ne_of_none e h)]
  exact s b u e
theorem same_t {K : PySem.W.Frag} {H H' : Hp} {a : Addr} {xs : List V} (e : Same H H') (h : SqT K H a xs) : SqT K H' a xs := by
  match h with
  | .inl (.inl z) => exact .inl (.inl (e _ _ z))
  | .inl (.inr ⟨u, z⟩) => exact .inl (.inr ⟨u, e _ _ z⟩)
  | .inr z => exact .inr z
theorem same_l {K : PySem.W.Frag} {H H' : Hp} {a : Addr} {xs : List V} (e : Same H H') (h : SqL K H a xs) : SqL K H' a xs := e.seq h
/-- all but what stands at p stays -/
def Kp (p : Addr) (H H' : Hp) : Prop := ∀ b o, b ≠ p → H b = some o → H' b = some o
theorem Kp.refl (p : Addr) (H : Hp) : Kp p H H := fun _ _ _ e => e
theorem Kp.trans {p : Addr} {H H1 H2 : Hp} (a : Kp p H H1) (b : Kp p H1 H2) : Kp p H H2 := fun c o n e => b c o n (a c o n e)
theorem Same.kp {p : Addr} {H H' : Hp} (s : Same H H') : Kp p H H' := fun b o _ e => s b o e
theorem Kp.upd {p : Addr} {H H' : Hp} {o : HO} (k : Kp p H H') : Kp p H (upd H' p o) := fun b u n e => by
  rw [upd_ne n]
  exact k b u n e
/-- tuples (and what is locked) stay: so every tuple of tuples and numbers does -/
structure Tp (H H' : Hp) : Prop where
  tup : ∀ b xs, H b = some (.tup xs) → H' b = some (.tup xs)
  frz : ∀ b o u, H b = some (.frz o u) → H' b = some (.frz o u)
theorem Same.tp {H H' : Hp} (s : Same H H') : Tp H H' := ⟨fun b xs e => s b _ e, fun b o u e => s b _ e⟩
theorem Tp.refl (H : Hp) : Tp H H := ⟨fun _ _ e => e, fun _ _ _ e => e⟩
theorem Tp.trans {H H1 H2 : Hp} (a : Tp H H1) (b : Tp H1 H2) : Tp H H2 := ⟨fun c xs e => b.tup c xs (a.tup c xs e), fun c o u e => b.frz c o u (a.frz c o u e)⟩
theorem Kp.tp {p : Addr} {H H' : Hp} {kvs : List (Key × V)} (k : Kp p H H') (h : H p = some (.dK kvs)) : Tp H H' :=
  ⟨fun b xs e => k b _ (ne_of e h (by intro z; cases z)) e, fun b o u e => k b _ (ne_of e h (by intro z; cases z)) e⟩
theorem tp_t {K : PySem.W.Frag} {H H' : Hp} {a : Addr} {xs : List V} (e : Tp H H') (h : SqT K H a xs) : SqT K H' a xs := by
  rcases h with (h | ⟨o, h⟩) | h
  · exact .inl (.inl (e.tup _ _ h))
  · exact .inl (.inr ⟨o, e.frz _ _ _ h⟩)
  · exact .inr h
/-- a list, a dict changes or a new thing comes -/
theorem tp_lst {H : Hp} {p : Addr} {xs : List V} {o : HO} (h : H p = some (.lst xs)) : Tp H (upd H p o) :=
  ⟨fun b ys e => by rw [upd_ne (ne_of e h (by intro z; cases z))]; exact e, fun b u v e => by rw [upd_ne (ne_of e h (by intro z; cases z))]; exact e⟩
theorem tp_dK {H : Hp} {p : Addr} {xs : List (Key × V)} {o : HO} (h : H p = some (.dK xs)) : Tp H (upd H p o) :=
  ⟨fun b ys e => by rw [upd_ne (ne_of e h (by intro z; cases z))]; exact e, fun b u v e => by rw [upd_ne (ne_of e h (by intro z; cases z))]; exact e⟩
theorem tp_new {H : Hp} {p : Addr} {o : HO} (h : H p = none) : Tp H (upd H p o) := Same.tp (same_new h)
/-! ### polynomials: tuples (or lists) of pairs of ints -/
def IsPr (K : PySem.W.Frag) (H : Hp) (x : V) (t : Int × Int) : Prop := ∃ a, x = V.ref a ∧ SqT K H a [.int t.1, .int t.2]
abbrev Prs (K : PySem.W.Frag) (H : Hp) : List V → Pol → Prop := Paired (IsPr K H)
def TPol (K : PySem.W.Frag) (H : Hp) (v : V) (f : Pol) : Prop := ∃ a xs, v = .ref a ∧ SqT K H a xs ∧ Prs K H xs f
def LPol (K : PySem.W.Frag) (H : Hp) (v : V) (f : Pol) : Prop := ∃ a xs, v = .ref a ∧ SqL K H a xs ∧ Prs K H xs f
section
variable {K : PySem.W.Frag} {H H' : Hp} {v x : V} {xs ys : List V} {f g : Pol} {t : Int × Int}
theorem IsPr.tp (e : Tp H H') (h : IsPr K H x t) : IsPr K H' x t := h.elim fun a z => ⟨a, z.1, tp_t e z.2⟩
theorem Prs.tp (e : Tp H H') : ∀ {xs : List V} {f : Pol}, Prs K H xs f → Prs K H' xs f
  | _, _, .nil => .nil
  | _, _, .cons r q => .cons (r.tp e) (Prs.tp e q)
theorem TPol.tp (e : Tp H H') (h : TPol K H v f) : TPol K H' v f := by
  obtain ⟨a, xs, rfl, hs, hp⟩ := h
  exact ⟨a, xs, rfl, tp_t e hs, Prs.tp e hp⟩
theorem LPol.same (e : Same H H') (h : LPol K H v f) : LPol K H' v f := by
  obtain ⟨a, xs, rfl, hs, hp⟩ := h
  exact ⟨a, xs, rfl, e.seq hs, Prs.tp (Same.tp e) hp⟩
theorem Prs.snoc : ∀ {xs : List V} {f : Pol}, Prs K H xs f → IsPr K H x t → Prs K H (xs ++ [x]) (f ++ [t])
  | _, _, .nil, h => .cons h .nil
  | _, _, .cons r q, h => .cons r (Prs.snoc q h)
theorem Prs.app : ∀ {xs : List V} {f : Pol}, Prs K H xs f → Prs K H ys g → Prs K H (xs ++ ys) (f ++ g)
  | _, _, .nil, h => h
  | _, _, .cons r q, h => .cons r (Prs.app q h)
theorem Prs.len (h : Prs K H xs f) : xs.length = f.length := Paired.length h
theorem Prs.get : ∀ {xs : List V} {f : Pol} {i : Nat} {x : V}, Prs K H xs f → xs[i]? = some x → ∃ t, f[i]? = some t ∧ IsPr K H x t
  | _, _, _, _, .nil, e => by simp at e
  | _, _, 0, _, .cons r _, e => by
    simp at e
    subst e
    exact ⟨_, rfl, r⟩
  | _, _, i + 1, x, .cons _ q, e => by
    obtain ⟨t, h1, h2⟩ := Prs.get (i := i) (x := x) q (by simpa using e)
    exact ⟨t, by simpa using h1, h2⟩
theorem isPr_new {p : Addr} {t : Int × Int} : IsPr K (upd H p (.tup [.int t.1, .int t.2])) (.ref p) t := ⟨p, rfl, SqT.of upd_same⟩
/-- as data -/
def pr (t : Int × Int) : PyData := .tuple [.int t.1, .int t.2]
def pd (f : Pol) : PyData := .tuple (f.map pr)
theorem IsPr.dp (h : IsPr K H x t) : Dp K H x (pr t) := by
  obtain ⟨a, rfl, hs⟩ := h
  exact .tup hs (.cons (.int _) (.cons (.int _) .nil))
theorem Prs.dp : ∀ {xs : List V} {f : Pol}, Prs K H xs f → DpAll K H xs (f.map pr)
  | _, _, .nil => .nil
  | _, _, .cons r q => .cons r.dp (Prs.dp q)
theorem TPol.dp (h : TPol K H v f) : Dp K H v (pd f) := by
  obtain ⟨a, xs, rfl, hs, hp⟩ := h
  exact .tup hs hp.dp
end
/-! ### how they are shown -/
theorem int_shows {i : Int} (h : i.natAbs < 10 ^ 100) : (PyData.int i).showable = true ∧ ((PyData.int i).shown).length ≤ 101 := by
  refine ⟨decide_eq_true (log2_small (Nat.lt_of_lt_of_le h (by decide +kernel))), ?_⟩
  have e := int_text_length_le10 (k := 100) (by decide) h
  show (Str.ofString (toString i)).length ≤ 101
  rw [PySem.ofString_length]
  exact e
theorem pr_shows {t : Int × Int} (h1 : t.1.natAbs < 10 ^ 100) (h2 : t.2.natAbs < 10 ^ 100) : (pr t).showable = true ∧ (pr t).shown.length ≤ 209 := by
  obtain ⟨a1, a2⟩ := int_shows h1
  obtain ⟨b1, b2⟩ := int_shows h2
  refine ⟨?_, ?_⟩
  · show ((PyData.int t.1).showable && ((PyData.int t.2).showable && true)) = true
    rw [a1, b1]
    rfl
  · show (tupleText [(PyData.int t.1).shown, (PyData.int t.2).shown]).length ≤ 209
    have := tupleText_len_le [(PyData.int t.1).shown, (PyData.int t.2).shown]
    simp only [List.map_cons, List.map_nil, List.sum_cons, List.sum_nil, List.length_cons, List.length_nil] at this
    omega
/-- small enough to be shown -/
structure Sm (f : Pol) : Prop where
  len : f.length ≤ 50000
  abs : ∀ t ∈ f, t.1.natAbs < 10 ^ 100 ∧ t.2.natAbs < 10 ^ 100
theorem prs_shows : ∀ (f : Pol), (∀ t ∈ f, t.1.natAbs < 10 ^ 100 ∧ t.2.natAbs < 10 ^ 100) → PyData.showableAll (f.map pr) = true ∧ PyData.hasDictAll (f.map pr) = false ∧ PyData.depthAll (f.map pr) ≤ 1 ∧ ((PyData.shownAll (f.map pr)).map (·.length)).sum ≤ 209 * f.length ∧ (PyData.shownAll (f.map pr)).length = f.length
  | [], _ => ⟨rfl, rfl, Nat.zero_le _, Nat.zero_le _, rfl⟩
  | t :: r, h => by
    obtain ⟨a1, a2, a3, a4, a5⟩ := prs_shows r fun u hu => h u (List.mem_cons_of_mem _ hu)
    obtain ⟨b1, b2⟩ := pr_shows (h t List.mem_cons_self).1 (h t List.mem_cons_self).2
    refine ⟨?_, ?_, ?_, ?_, ?_⟩
    · show ((pr t).showable && PyData.showableAll (r.map pr)) = true
      rw [a1, b1]
      rfl
    · show ((pr t).hasDict || PyData.hasDictAll (r.map pr)) = false
      rw [a2]
      rfl
    · show max (pr t).depth (PyData.depthAll (r.map pr)) ≤ 1
      have : (pr t).depth = 1 := rfl
      omega
    · show ((pr t).shown.length :: ((PyData.shownAll (r.map pr)).map (·.length))).sum ≤ 209 * (r.length + 1)
      rw [List.sum_cons]
      omega
    · show (PyData.shownAll (r.map pr)).length + 1 = r.length + 1
      rw [a5]
theorem pd_shows {f : Pol} (h : Sm f) : (pd f).showable = true ∧ (pd f).hasDict = false ∧ (pd f).depth ≤ 2 ∧ (pd f).shown.length ≤ 211 * f.length + 3 := by
  obtain ⟨a1, a2, a3, a4, a5⟩ := prs_shows f h.abs
  refine ⟨a1, a2, ?_, ?_⟩
  · show PyData.depthAll (f.map pr) + 1 ≤ 2
    omega
  · show (tupleText (PyData.shownAll (f.map pr))).length ≤ _
    have := tupleText_len_le (PyData.shownAll (f.map pr))
    rw [a5] at this
    omega
/-- what repr asks -/
structure Shows (K : PySem.W.Frag) (H : Hp) (v : V) (d : PyData) : Prop where
  ref : ∃ a, v = .ref a
  dp : Dp K H v d
  s1 : d.showable = true
  s2 : d.hasDict = false
  s3 : d.depth ≤ 64
  s4 : d.shown.length ≤ sizeLine
theorem TPol.shows {K : PySem.W.Frag} {H : Hp} {v : V} {f : Pol} (h : TPol K H v f) (s : Sm f) : Shows K H v (pd f) := by
  obtain ⟨a1, a2, a3, a4⟩ := pd_shows s
  have := s.len
  refine ⟨h.elim fun a z => ⟨a, z.elim fun _ y => y.1⟩, h.dp, a1, a2, by omega, ?_⟩
  rw [sizeLine_eq]
  omega
theorem pr_lay (t : Int × Int) : (pr t).canLay0 = true := rfl
theorem prs_lay : ∀ f : Pol, PyData.canLayAll0 (f.map pr) = true ∧ PyData.depthAll (f.map pr) ≤ 1
  | [] => ⟨rfl, Nat.zero_le _⟩
  | t :: r => by
    obtain ⟨a, b⟩ := prs_lay r
    refine ⟨?_, ?_⟩
    · show ((pr t).canLay0 && PyData.canLayAll0 (r.map pr)) = true
      rw [a]
      rfl
    · show max (pr t).depth (PyData.depthAll (r.map pr)) ≤ 1
      have : (pr t).depth = 1 := rfl
      omega
theorem pd_shaped (f : Pol) : SeqAt.shaped (pd f) = true := by
  obtain ⟨a, b⟩ := prs_lay f
  show (PyData.canLayAll0 (f.map pr) && decide (PyData.depthAll (f.map pr) + 1 ≤ 64)) = true
  rw [a, decide_eq_true (by omega)]
  rfl
/-! ### dicts of ints -/
def kvOf (m : Pol) : List (Key × V) := m.map fun t => (Sum.inl t.1, V.int t.2)
theorem kv_keys (m : Pol) : (kvOf m).map (·.1) = (m.map (·.1)).map Sum.inl := by
  unfold kvOf
  rw [List.map_map, List.map_map]
  rfl
theorem kv_val : ∀ (m : Pol) (e : Int), (m.map (·.1)).Nodup → valV (kvOf m) (Sum.inl e) = if e ∈ m.map (·.1) then some (.int (cf m e)) else none
  | [], e, _ => by simp [kvOf, valV_nil]
  | t :: r, e, h => by
    have n := List.nodup_cons.mp (show (t.1 :: r.map (·.1)).Nodup from h)
    show valV ((Sum.inl t.1, V.int t.2) :: kvOf r) (Sum.inl e) = _
    by_cases q : t.1 = e
    · rw [valV_pos (by rw [q])]
      rw [if_pos (by rw [← q]; exact List.mem_cons_self), cf_cons, if_pos q, cf_out (f := r) (e := e) (by rw [← q]; exact n.1)]
      show some (V.int t.2) = some (V.int (t.2 + 0))
      rw [Int.add_zero]
    · rw [valV_neg (fun z => q (Sum.inl.inj z)), kv_val r e n.2, cf_cons, if_neg q, Int.zero_add]
      have : e ∈ (t :: r).map (·.1) ↔ e ∈ r.map (·.1) := by
        rw [List.map_cons, List.mem_cons]
        exact ⟨fun z => z.elim (fun y => absurd y.symm q) id, .inr⟩
      by_cases z : e ∈ r.map (·.1)
      · rw [if_pos z, if_pos (this.mpr z)]
      · rw [if_neg z, if_neg (fun y => z (this.mp y))]
theorem kv_getD (m : Pol) (e : Int) (h : (m.map (·.1)).Nodup) : (valV (kvOf m) (Sum.inl e)).getD (.int 0) = .int (cf m e) := by
  rw [kv_val m e h]
  by_cases z : e ∈ m.map (·.1)
  · rw [if_pos z]
    rfl
  · rw [if_neg z, cf_out z]
    rfl
theorem kv_has {m : Pol} {e : Int} (h : (m.map (·.1)).Nodup) (z : e ∈ m.map (·.1)) : valV (kvOf m) (Sum.inl e) = some (.int (cf m e)) := by
  rw [kv_val m e h, if_pos z]
theorem put_new : ∀ {m : Pol} {e v : Int}, e ∉ m.map (·.1) → put m e v = m ++ [(e, v)]
  | [], _, _, _ => rfl
  | t :: r, e, v, h => by
    have h1 : t.1 ≠ e := fun z => h (by rw [← z]; exact List.mem_cons_self)
    unfold put
    rw [if_neg h1, put_new fun z => h (List.mem_cons_of_mem _ z)]
    rfl
theorem put_old : ∀ {m : Pol} {e v : Int}, (m.map (·.1)).Nodup → e ∈ m.map (·.1) → put m e v = m.map fun t => if t.1 = e then (t.1, v) else t
  | [], _, _, _, h => absurd h List.not_mem_nil
  | t :: r, e, v, n, h => by
    have nn := List.nodup_cons.mp (show (t.1 :: r.map (·.1)).Nodup from n)
    unfold put
    by_cases q : t.1 = e
    · rw [if_pos q, List.map_cons, if_pos q, q]
      congr 1
      have : ∀ u ∈ r, (if u.1 = e then (u.1, v) else u) = id u := fun u hu => by
        rw [if_neg]
        · rfl
        · intro z
          exact nn.1 (by rw [q, ← z]; exact List.mem_map_of_mem hu)
      rw [List.map_congr_left this, List.map_id]
    · rw [if_neg q, List.map_cons, if_neg q, put_old nn.2]
      rcases List.mem_cons.mp (show e ∈ t.1 :: r.map (·.1) from h) with z | z
      · exact absurd z.symm q
      · exact z
theorem kv_put {m : Pol} {e v : Int} (n : (m.map (·.1)).Nodup) : putK (kvOf m) (Sum.inl e : Key) (.int v) = kvOf (put m e v) := by
  by_cases z : e ∈ m.map (·.1)
  · rw [put_old n z]
    unfold putK
    rw [valV_any, kv_has n z, if_pos (by rfl)]
    unfold kvOf
    rw [List.map_map, List.map_map]
    refine List.map_congr_left fun t _ => ?_
    show (if (Sum.inl t.1 : Key) = Sum.inl e then ((Sum.inl t.1 : Key), V.int v) else (Sum.inl t.1, V.int t.2)) = (Sum.inl (if t.1 = e then (t.1, v) else t).1, V.int (if t.1 = e then (t.1, v) else t).2)
    by_cases q : t.1 = e
    · rw [if_pos q, if_pos (by rw [q])]
    · rw [if_neg q, if_neg (fun y => q (Sum.inl.inj y))]
  · rw [putK_new _ (by rw [kv_val m e n, if_neg z]), put_new z]
    unfold kvOf
    rw [List.map_append]
    rfl
theorem kv_len (m : Pol) : (kvOf m).length = m.length := by
  unfold kvOf
  rw [List.length_map]
theorem sl_of {n : Nat} (h : n ≤ 1000000) : n ≤ sizeLine := by
  rw [sizeLine_eq]
  omega
theorem sl_lt {n : Nat} (h : n ≤ 1000000) : n < sizeLine := by
  rw [sizeLine_eq]
  omega
/-! ### a list of pairs that a comprehension, or a loop, makes -/
structure Grow (K : PySem.W.Frag) (H0 : Hp) (D : Addr) (f : Pol) (H : Hp) : Prop where
  same : Same H0 H
  ex : ∃ xs, H D = some (.lst xs) ∧ Prs K H xs f
section
variable {K : PySem.W.Frag} {H0 H : Hp} {D q : Addr} {f : Pol}
theorem Grow.start (n : H0 D = none) : Grow K H0 D [] (upd H0 D (.lst [])) := ⟨same_new n, [], upd_same, .nil⟩
theorem Grow.step (n : H0 D = none) (g : Grow K H0 D f H) (hq : H q = none) (e c : Int) (hl : f.length < 1000000) :
    ∃ acc, upd H q (.tup [.int e, .int c]) D = some (.lst acc) ∧ acc.length < sizeLine ∧ Grow K H0 D (f ++ [(e, c)]) (upd (upd H q (.tup [.int e, .int c])) D (.lst (acc ++ [.ref q]))) := by
  obtain ⟨s, xs, hD, hP⟩ := g
  have nDq : D ≠ q := ne_of_none hD hq
  have h1 : upd H q (.tup [.int e, .int c]) D = some (.lst xs) := by
    rw [upd_ne nDq]
    exact hD
  have t1 : Tp H (upd H q (.tup [.int e, .int c])) := tp_new hq
  have t2 : Tp (upd H q (.tup [.int e, .int c])) (upd (upd H q (.tup [.int e, .int c])) D (.lst (xs ++ [.ref q]))) := tp_lst h1
  refine ⟨xs, h1, sl_lt (by rw [hP.len]; omega), same_mut (s.trans (same_new hq)) n, _, upd_same, Prs.snoc (Prs.tp (t1.trans t2) hP) (IsPr.tp t2 ?_)⟩
  exact isPr_new (t := (e, c))
end
theorem ints_get {ys : List Int} {i : Nat} {x : V} (h : (ys.map V.int)[i]? = some x) : ∃ e, ys[i]? = some e ∧ x = .int e := by
  rw [List.getElem?_map] at h
  cases q : ys[i]? with
  | none =>
    rw [q] at h
    cases h
  | some e =>
    rw [q] at h
    exact ⟨e, rfl, (Option.some.inj h).symm⟩
theorem take_snoc {α : Type} {ys : List α} {i : Nat} {e : α} (h : ys[i]? = some e) : ys.take (i + 1) = ys.take i ++ [e] := by
  rw [List.take_add_one, h]
  rfl
theorem dget_int {H : Hp} {d : Addr} {m : Pol} {e : Int} (h : H d = some (.dK (kvOf m))) (n : (m.map (·.1)).Nodup) (z : e ∈ m.map (·.1)) : DGet H d (.int e) (some (.int (cf m e))) := by
  have := DGet.k (k := (Sum.inl e : Key)) h
  rw [kv_has n z] at this
  exact this
theorem dget_any {H : Hp} {d : Addr} {m : Pol} (e : Int) (h : H d = some (.dK (kvOf m))) : DGet H d (.int e) (valV (kvOf m) (Sum.inl e)) := DGet.k (k := (Sum.inl e : Key)) h
theorem dput_int {H : Hp} {d : Addr} {m : Pol} (e v : Int) (h : H d = some (.dK (kvOf m))) (n : (m.map (·.1)).Nodup) (hl : m.length ≤ 1000000) : DPut H d (.int e) (.int v) (upd H d (.dK (kvOf (put m e v)))) := by
  have := DPut.k (k := (Sum.inl e : Key)) (v := .int v) h (by rw [kv_len]; exact sl_lt hl)
  rw [kv_put n] at this
  exact this
/-! ### a def of the text by its name, and its call -/
structure Cal (P : Program) (w : World) (K : PySem.W.Frag) (mg : Str → Option Value) (base : Heap) (k : Nat) (x : Str) (sp : Sp) : Prop where
  ex : ∃ (f : Addr) (fd : FuncData) (ps : List Str), FnOk P w K mg base CX0 k f fd ps sp ∧ mg x = some (.ref f) ∧ PySem.W.keepIn K (.ref f) = true ∧ Binds K fd ps []
theorem pe_c {X : Cx} {k j : Nat} {x : Str} {sp : Sp} {p pos : Pos} {e : Expr} {es : List Expr} {t : TA} (c : Cal X.prog X.w X.K X.mg X.base k x sp) (hr : Room j X.A) (hk : k ≤ j) (hg : Gl X x) (ha : PA X (e :: es) t)
    (h1 : (x == ("__debug__" : Str)) = false := by decide) (h2 : starEach (e :: es) X.env = (false, eval e X.env) :: starEach es X.env := by rfl) (h3 : (backTo pos (starEach es X.env)).any (·.1) = false := by rfl) :
    PE X (.Call (.Name x p) (e :: es) [] pos) (tCall sp [] E0 t) := by
  obtain ⟨f, fd, ps, F, hm, kp, b⟩ := c.ex
  exact pe_call F (hr.mono hk) hg hm kp b .nil pass0 ha h1 h2 h3
/-! ### comprehensions that make pairs -/
section
variable {K : PySem.W.Frag} {a : Addr} {xs : List V} {f : Pol} {σ : L2.St} {H : Hp} {vs : List Nat} {n i j : Nat} {te : TE} {Q : VK}
/-- [(.., ..) for x, y in a tuple of pairs] -/
theorem lcT (G : Int × Int → Int × Int) (hv : σ[n]? = some (some (.ref a))) (hs : SqT K H a xs) (hP : Prs K H xs f) (hl : f.length ≤ 1000000)
    (hw : ∀ x y, wipe (((wipe σ vs).set i (some x)).set j (some y)) vs = wipe σ vs)
    (he : ∀ t ∈ f, ∀ H2, Same H H2 → ∀ R : VK, (∀ q, H2 q = none → R (.ref q) (upd H2 q (.tup [.int (G t).1, .int (G t).2]))) → te (((wipe σ vs).set i (some (.int t.1))).set j (some (.int t.2))) H2 R)
    (k : ∀ D H2, H D = none → Grow K H D (f.map G) H2 → Q (.ref D) H2) : tLc (iTup K (tVar n)) (gTup K 2 (gCons (gName i) (gCons (gName j) gNil))) tYes te vs σ H Q := by
  refine ⟨_, hv, a, rfl, ⟨_, hs⟩, fun D nD => lc_tup (K := K) (a := a) (xs := xs) (fun m H2 => Grow K H D ((f.take m).map G) H2) (.start nD) (fun m H2 _ g => same_t g.same hs) ?_ ?_⟩
  · intro m x H2 hm g
    obtain ⟨t, ht, b, rfl, hb⟩ := hP.get hm
    refine ⟨b, _, rfl, same_t g.same hb, rfl, _, _, rfl, _, _, rfl, rfl, hw _ _, ?_⟩
    dsimp only [tYes]
    rw [if_pos rfl]
    refine (he t (List.mem_of_getElem? ht) H2 g.same _ fun q nq => ?_)
    rw [take_snoc ht, List.map_append]
    refine g.step nD nq (G t).1 (G t).2 ?_
    have : m < f.length := (List.getElem?_eq_some_iff.mp ht).1
    rw [List.length_map, List.length_take]
    omega
  · intro H2 g
    rw [hP.len, List.take_length] at g
    exact k D H2 nD g
/-- the same over a list of pairs -/
theorem lcL (G : Int × Int → Int × Int) (hv : σ[n]? = some (some (.ref a))) (hs : SqL K H a xs) (hP : Prs K H xs f) (hl : f.length ≤ 1000000)
    (hw : ∀ x y, wipe (((wipe σ vs).set i (some x)).set j (some y)) vs = wipe σ vs)
    (he : ∀ t ∈ f, ∀ H2, Same H H2 → ∀ R : VK, (∀ q, H2 q = none → R (.ref q) (upd H2 q (.tup [.int (G t).1, .int (G t).2]))) → te (((wipe σ vs).set i (some (.int t.1))).set j (some (.int t.2))) H2 R)
    (k : ∀ D H2, H D = none → Grow K H D (f.map G) H2 → Q (.ref D) H2) : tLc (iList K (tVar n)) (gTup K 2 (gCons (gName i) (gCons (gName j) gNil))) tYes te vs σ H Q := by
  refine ⟨_, hv, a, rfl, ⟨_, hs⟩, fun D nD => lc_list (K := K) (a := a) (xs := xs) (fun m H2 => Grow K H D ((f.take m).map G) H2) (.start nD) (fun m H2 _ g => same_l g.same hs) ?_ ?_⟩
  · intro m x H2 hm g
    obtain ⟨t, ht, b, rfl, hb⟩ := hP.get hm
    refine ⟨b, _, rfl, same_t g.same hb, rfl, _, _, rfl, _, _, rfl, rfl, hw _ _, ?_⟩
    dsimp only [tYes]
    rw [if_pos rfl]
    refine (he t (List.mem_of_getElem? ht) H2 g.same _ fun q nq => ?_)
    rw [take_snoc ht, List.map_append]
    refine g.step nD nq (G t).1 (G t).2 ?_
    have : m < f.length := (List.getElem?_eq_some_iff.mp ht).1
    rw [List.length_map, List.length_take]
    omega
  · intro H2 g
    rw [hP.len, List.take_length] at g
    exact k D H2 nD g
/-- [(.., ..) for k in range(n)] -/
theorem lcR (G : Nat → Int × Int) {c : Int} {tn : TE} (hv : ∀ R : VK, R (.int c) H → tn σ H R) (h0 : 0 ≤ c) (hl : c ≤ 1000000)
    (hw : ∀ x, wipe ((wipe σ vs).set i (some x)) vs = wipe σ vs)
    (he : ∀ m, m < c.toNat → ∀ H2, Same H H2 → ∀ R : VK, (∀ q, H2 q = none → R (.ref q) (upd H2 q (.tup [.int (G m).1, .int (G m).2]))) → te ((wipe σ vs).set i (some (.int (0 + (m : Int))))) H2 R)
    (k : ∀ D H2, H D = none → Grow K H D ((List.range c.toNat).map G) H2 → Q (.ref D) H2) : tLc (iRng1 (tCons tn tNil)) (gName i) tYes te vs σ H Q := by
  refine hv _ ⟨c, rfl, by omega, by omega, fun D nD => lc_range (lo := 0) (n := c.toNat) (fun m H2 => Grow K H D ((List.range m).map G) H2) (.start nD) ?_ fun H2 g => k D H2 nD g⟩
  intro m H2 hm g
  refine ⟨hw _, ?_⟩
  dsimp only [tYes]
  rw [if_pos rfl]
  refine (he m hm H2 g.same _ fun q nq => ?_)
  rw [List.range_succ, List.map_append]
  refine g.step nD nq (G m).1 (G m).2 ?_
  rw [List.length_map, List.length_range]
  omega
end
theorem Grow.lpol {K : PySem.W.Frag} {H0 H : Hp} {D : Addr} {f : Pol} (g : Grow K H0 D f H) : LPol K H (.ref D) f := by
  obtain ⟨xs, h1, h2⟩ := g.ex
  exact ⟨D, xs, rfl, SqL.of h1, h2⟩
/-- tuple(the list of pairs) -/
theorem rd_tuple {K : PySem.W.Frag} {H0 H : Hp} {D : Addr} {f : Pol} {Q : VK} (g : Grow K H0 D f H) (k : ∀ v H', Same H0 H' → TPol K H' v f → Q v H') :
    ∃ p ys, [V.ref D] = [V.ref p] ∧ ((SqL K H p ys ∧ ∀ l, H l = none → Q (.ref l) (upd H l (.tup ys))) ∨ (SqT K H p ys ∧ Q (.ref p) H)) := by
  obtain ⟨xs, h1, h2⟩ := g.ex
  exact ⟨D, xs, rfl, .inl ⟨SqL.of h1, fun l nl => k _ _ (g.same.trans (same_new nl)) ⟨l, xs, rfl, SqT.of upd_same, Prs.tp (tp_new nl) h2⟩⟩⟩
/-! ### a def as the top leaves it -/
structure Df (K : PySem.W.Frag) (mg : Str → Option Value) (x : Str) (st : Stmt) : Prop where
  ex : ∃ (f : Addr) (fd : FuncData), Fun K x x st f fd ∧ mg x = some (.ref f) ∧ PySem.W.keepIn K (.ref f) = true
theorem df_mk {K : PySem.W.Frag} {h : Heap} {mg : Str → Option Value} {x : Str} {st : Stmt} {f : Addr} {oc : Value} {od an : Option Addr} {osl : Array (Option Value)} {kV doc pm cdv ct : Value} (X : K.In h) (G : h.Ns mainGlobals mg)
    (a : PySem.W.nsIn K mainGlobals x = some (some (.ref f))) (l : K.lookup f = some ⟨oc, od, .func (PySem.W.fnOf x x (defArgs st) (defBody st) (defScope st) .none kV doc pm an cdv ct), osl⟩) (c : PySem.W.codeIn K cdv x = true) (k : PySem.W.keepIn K (.ref f) = true) : Df K mg x st :=
  ⟨f, _, fun_mk (st := st) l c k, PySem.W.mg_of X G a, k⟩
theorem cal_of {P : Program} {w : World} {K : PySem.W.Frag} {mg : Str → Option Value} {base : Heap} {k : Nat} {x : Str} {st : Stmt} {ps : List Str} {sp : Sp} (D : Df K mg x st)
    (b : ∀ (kV doc pm : Value) (an : Option Addr) (cdv ct : Value) (us : List Value), us.length = ps.length → bindArgs (PySem.W.fnOf x x (defArgs st) (defBody st) (defScope st) .none kV doc pm an cdv ct) ⟨us, []⟩ = pure (ps.zip us))
    (ok : ∀ f fd, Fun K x x st f fd → FnOk P w K mg base CX0 k f fd ps sp) : Cal P w K mg base k x sp := by
  obtain ⟨f, fd, F, hm, kp⟩ := D.ex
  exact ⟨f, fd, ps, ok f fd F, hm, kp, F.binds b⟩
/-- the law's own def -/
theorem law_of {l : PySem.W.OpenLaw} {w : World} {K : PySem.W.Frag} {mg : Str → Option Value} {fa : Addr} {x y : Str} {st : Stmt} {sp : Sp} (hfa : mg x = some (.ref fa)) (D : Df K mg x st)
    (b : ∀ (kV doc pm : Value) (an : Option Addr) (cdv ct : Value) (s : Shared) (v : Value), BindsTo s (PySem.W.fnOf x x (defArgs st) (defBody st) (defScope st) .none kV doc pm an cdv ct) ⟨[v], []⟩ [(y, v)])
    (ok : ∀ (base : Heap) f fd, Fun K x x st f fd → Kept l.prog w K mg base f fd [y] sp) :
    ∃ fd : FuncData, (∀ (s : Shared) (v : Value), BindsTo s fd ⟨[v], []⟩ [(y, v)]) ∧ ∀ base : Heap, K.In base → base.Ns mainGlobals mg → Kept l.prog w K mg base fa fd [y] sp := by
  obtain ⟨f, fd, F, hm, kp⟩ := D.ex
  cases hfa.symm.trans hm
  refine ⟨fd, ?_, fun base _ _ => ok base fa fd F⟩
  obtain ⟨_, _, kV, doc, pm, an, cdv, ct, _, rfl, _⟩ := F.ex
  exact b kV doc pm an cdv ct
theorem gName_app {i : Nat} {v : V} {σ : L2.St} {H : Hp} {Q : L2.St → Hp → Prop} : gName i v σ H Q = Q (σ.set i (some v)) H := rfl
end DR
namespace DR
open PySem PySem.Spec PyProof.Rows L2
/-! ### the pen that draws from the script -/
theorem n_cu : ¬ ((Sum.inr ("cells" : Str) : Key) = Sum.inr ("used" : Str)) := by decide +kernel
theorem n_cl : ¬ ((Sum.inr ("cells" : Str) : Key) = Sum.inr ("left" : Str)) := by decide +kernel
theorem n_ul : ¬ ((Sum.inr ("used" : Str) : Key) = Sum.inr ("left" : Str)) := by decide +kernel
theorem n_uc : ¬ ((Sum.inr ("used" : Str) : Key) = Sum.inr ("cells" : Str)) := by decide +kernel
theorem n_lc : ¬ ((Sum.inr ("left" : Str) : Key) = Sum.inr ("cells" : Str)) := by decide +kernel
theorem n_lu : ¬ ((Sum.inr ("left" : Str) : Key) = Sum.inr ("used" : Str)) := by decide +kernel
def penKv (c : Addr) (u l : Int) : List (Key × V) := [(Sum.inr ("cells" : Str), .ref c), (Sum.inr ("used" : Str), .int u), (Sum.inr ("left" : Str), .int l)]
section
variable (c : Addr) (u l x : Int)
theorem pen_cells : valV (penKv c u l) (Sum.inr ("cells" : Str) : Key) = some (.ref c) := valV_pos rfl
theorem pen_used : valV (penKv c u l) (Sum.inr ("used" : Str) : Key) = some (.int u) := by
  unfold penKv
  rw [valV_neg n_cu, valV_pos rfl]
theorem pen_left : valV (penKv c u l) (Sum.inr ("left" : Str) : Key) = some (.int l) := by
  unfold penKv
  rw [valV_neg n_cl, valV_neg n_ul, valV_pos rfl]
theorem pen_setU : putK (penKv c u l) (Sum.inr ("used" : Str) : Key) (.int x) = penKv c x l := by
  unfold putK
  rw [valV_any, pen_used, if_pos (by rfl)]
  unfold penKv
  rw [List.map_cons, List.map_cons, List.map_cons, List.map_nil, if_neg n_cu, if_pos rfl, if_neg n_lu]
theorem pen_setL : putK (penKv c u l) (Sum.inr ("left" : Str) : Key) (.int x) = penKv c u x := by
  unfold putK
  rw [valV_any, pen_left, if_pos (by rfl)]
  unfold penKv
  rw [List.map_cons, List.map_cons, List.map_cons, List.map_nil, if_neg n_cl, if_neg n_ul, if_pos rfl]
theorem pen_merge : mergeK [] (penKv c u l) = penKv c u l := by
  have e1 : putK ([] : List (Key × V)) (Sum.inr ("cells" : Str)) (.ref c) = [(Sum.inr ("cells" : Str), .ref c)] := putK_new _ valV_nil
  have e2 : putK ([(Sum.inr ("cells" : Str), .ref c)] : List (Key × V)) (Sum.inr ("used" : Str)) (.int u) = [(Sum.inr ("cells" : Str), .ref c), (Sum.inr ("used" : Str), .int u)] := putK_new _ (by rw [valV_neg n_cu]; exact valV_nil)
  have e3 : putK ([(Sum.inr ("cells" : Str), .ref c), (Sum.inr ("used" : Str), .int u)] : List (Key × V)) (Sum.inr ("left" : Str)) (.int l) = penKv c u l := putK_new _ (by rw [valV_neg n_cl, valV_neg n_ul]; exact valV_nil)
  show putK (putK (putK ([] : List (Key × V)) (Sum.inr ("cells" : Str)) (.ref c)) (Sum.inr ("used" : Str)) (.int u)) (Sum.inr ("left" : Str)) (.int l) = _
  rw [e1, e2, e3]
end
/-- a pen at p, its cells at c, that has drawn at most n numbers -/
structure PenAt (H : Hp) (p c : Addr) (n : Nat) : Prop where
  ex : ∃ (ns : List Int) (u l : Int), H p = some (.dK (penKv c u l)) ∧ H c = some (.lst (ns.map V.int)) ∧ 0 ≤ u ∧ u ≤ n
section
variable {H H' : Hp} {p c : Addr} {n m : Nat}
theorem PenAt.dict (h : PenAt H p c n) : ∃ kvs, H p = some (.dK kvs) := by
  obtain ⟨ns, u, l, h1, _⟩ := h.ex
  exact ⟨_, h1⟩
theorem PenAt.cells (h : PenAt H p c n) : ∃ xs, H c = some (.lst xs) := by
  obtain ⟨ns, u, l, _, h2, _⟩ := h.ex
  exact ⟨_, h2⟩
theorem PenAt.np {q : Addr} (h : PenAt H p c n) (hq : H q = none) : q ≠ p := (h.dict.elim fun _ e => ne_of_none e hq).symm
theorem PenAt.nc {q : Addr} (h : PenAt H p c n) (hq : H q = none) : q ≠ c := (h.cells.elim fun _ e => ne_of_none e hq).symm
theorem PenAt.mono (h : PenAt H p c n) (e : n ≤ m) : PenAt H p c m := by
  obtain ⟨ns, u, l, h1, h2, h3, h4⟩ := h.ex
  exact ⟨ns, u, l, h1, h2, h3, by omega⟩
theorem PenAt.same (h : PenAt H p c n) (s : Same H H') : PenAt H' p c n := by
  obtain ⟨ns, u, l, h1, h2, h3⟩ := h.ex
  exact ⟨ns, u, l, s _ _ h1, s _ _ h2, h3⟩
/-- another object changes -/
theorem PenAt.upd {q : Addr} {o : HO} (h : PenAt H p c n) (h1 : q ≠ p) (h2 : q ≠ c) : PenAt (upd H q o) p c n := by
  obtain ⟨ns, u, l, a1, a2, a3⟩ := h.ex
  exact ⟨ns, u, l, by rw [upd_ne h1.symm]; exact a1, by rw [upd_ne h2.symm]; exact a2, a3⟩
theorem PenAt.tp (h : PenAt H p c n) (k : Kp p H H') : Tp H H' := h.dict.elim fun _ e => k.tp e
end
end DR
namespace DR
open PySem PySem.Spec PyProof.Rows L2
/-! ### what the defs promise -/
/-- a polynomial of the law's: canonical, with at most so many terms, its exponents within reach -/
structure Drawn (q : Int) (g : Pol) (terms : Nat) (reach : Int) : Prop where
  nf : Nf q g (cf g)
  len : g.length ≤ terms
  abs : ∀ t ∈ g, t.1.natAbs ≤ reach.natAbs
def primes : List Int := [2, 3, 5, 7, 11, 13, 17, 19, 23, 29, 31, 37, 41, 43, 47, 53, 59, 61, 67, 71, 73, 79, 83, 89, 97]
theorem prime_rng : ∀ q ∈ primes, 2 ≤ q ∧ q ≤ 97 := by decide
def sp_from_sums (K : PySem.W.Frag) : Sp := fun vs H Q _ => ∃ (p : Int) (d : Addr) (m : Pol), vs = [.int p, .ref d] ∧ 0 < p ∧ H d = some (.dK (kvOf m)) ∧ (m.map (·.1)).Nodup ∧ m.length ≤ 1000000 ∧ ∀ v H' g, Same H H' → TPol K H' v g → Nf p g (cf m) → Q v H'
def sp_normalize (K : PySem.W.Frag) : Sp := fun vs H Q _ => ∃ (p : Int) (v : V) (ps : Pol), vs = [.int p, v] ∧ 0 < p ∧ (TPol K H v ps ∨ LPol K H v ps) ∧ ps.length ≤ 1000000 ∧ ∀ u H' g, Same H H' → TPol K H' u g → Nf p g (cf ps) → Q u H'
def sp_scale (K : PySem.W.Frag) : Sp := fun vs H Q _ => ∃ (p : Int) (v : V) (f : Pol) (c : Int), vs = [.int p, v, .int c] ∧ 0 < p ∧ TPol K H v f ∧ f.length ≤ 1000000 ∧ (∀ t ∈ f, -(2 ^ 64) < t.2 ∧ t.2 < 2 ^ 64) ∧ ∀ u H' g, Same H H' → TPol K H' u g → Nf p g (fun e => cf f e * c) → Q u H'
def sp_move (K : PySem.W.Frag) : Sp := fun vs H Q _ => ∃ (v : V) (f : Pol) (n : Int), vs = [v, .int n] ∧ TPol K H v f ∧ f.length ≤ 1000000 ∧ ∀ u H', Same H H' → TPol K H' u (moved n f) → Q u H'
def sp_geometric (K : PySem.W.Frag) : Sp := fun vs H Q _ => ∃ (p n s : Int), vs = [.int p, .int n, .int s] ∧ 0 < p ∧ 0 ≤ n ∧ n ≤ 1000000 ∧ ∀ u H' g, Same H H' → TPol K H' u g → Nf p g (cf (rounds n.toNat s)) → Q u H'
def sp_add (K : PySem.W.Frag) : Sp := fun vs H Q _ => ∃ (p : Int) (v1 v2 : V) (f g : Pol), vs = [.int p, v1, v2] ∧ 0 < p ∧ TPol K H v1 f ∧ TPol K H v2 g ∧ f.length + g.length ≤ 1000000 ∧ ∀ u H' r, Same H H' → TPol K H' u r → Nf p r (fun e => cf f e + cf g e) → Q u H'
def sp_subtract (K : PySem.W.Frag) : Sp := fun vs H Q _ => ∃ (p : Int) (v1 v2 : V) (f g : Pol), vs = [.int p, v1, v2] ∧ 0 < p ∧ TPol K H v1 f ∧ TPol K H v2 g ∧ f.length + g.length ≤ 1000000 ∧ (∀ t ∈ g, -(2 ^ 64) < t.2 ∧ t.2 < 2 ^ 64) ∧ ∀ u H' r, Same H H' → TPol K H' u r → Nf p r (fun e => cf f e - cf g e) → Q u H'
def sp_multiply (K : PySem.W.Frag) : Sp := fun vs H Q _ => ∃ (p : Int) (v1 v2 : V) (f g : Pol), vs = [.int p, v1, v2] ∧ 0 < p ∧ TPol K H v1 f ∧ TPol K H v2 g ∧ f.length * g.length ≤ 1000000 ∧ (∀ t ∈ f, -(2 ^ 64) < t.2 ∧ t.2 < 2 ^ 64) ∧ ∀ u H' r, Same H H' → TPol K H' u r → Nf p r (cf (prods f g)) → Q u H'
def sp__law_pen (K : PySem.W.Frag) : Sp := fun vs H Q _ => ∃ (a : Addr) (ns : List Int), vs = [.ref a] ∧ SqL K H a (ns.map V.int) ∧ ∀ p c H', H p = none → Same H H' → PenAt H' p c 0 → Q (.ref p) H'
def sp__law_draw : Sp := fun vs H Q _ => ∃ (p c : Addr) (many : Int) (n : Nat), vs = [.ref p, .int many] ∧ 0 < many ∧ many.natAbs < 2 ^ 400 ∧ PenAt H p c n ∧ n < 2 ^ 40 ∧ ∀ r H', 0 ≤ r → r < many → Kp p H H' → PenAt H' p c (n + 1) → Q (.int r) H'
def sp__law_pick : Sp := fun vs H Q _ => ∃ (p c o : Addr) (n : Nat) (xs : List V), vs = [.ref p, .ref o] ∧ PenAt H p c n ∧ n < 2 ^ 40 ∧ H o = some (.lst xs) ∧ 0 < xs.length ∧ xs.length ≤ 100000 ∧ ∀ v H', v ∈ xs → Kp p H H' → PenAt H' p c (n + 1) → Q v H'
def sp__law_prime : Sp := fun vs H Q _ => ∃ (p c : Addr) (n : Nat), vs = [.ref p] ∧ PenAt H p c n ∧ n + 2 < 2 ^ 40 ∧ ∀ q H', q ∈ primes → Kp p H H' → PenAt H' p c (n + 2) → Q (.int q) H'
def sp__law_integer : Sp := fun vs H Q _ => ∃ (p c : Addr) (most : Int) (n : Nat), vs = [.ref p, .int most] ∧ 0 ≤ most ∧ most.natAbs < 10 ^ 90 ∧ PenAt H p c n ∧ n < 2 ^ 40 ∧ ∀ r H', r.natAbs ≤ most.natAbs → Kp p H H' → PenAt H' p c (n + 1) → Q (.int r) H'
def sp__law_polynomial (K : PySem.W.Frag) : Sp := fun vs H Q _ => ∃ (p c : Addr) (q terms reach : Int) (n : Nat), vs = [.ref p, .int q, .int terms, .int reach] ∧ 2 ≤ q ∧ q ≤ 97 ∧ 0 ≤ terms ∧ terms ≤ 1000 ∧ 0 ≤ reach ∧ reach.natAbs < 10 ^ 90 ∧ PenAt H p c n ∧ n < 2 ^ 39 ∧
  ∀ v H' g, Kp p H H' → PenAt H' p c (n + 2 * terms.toNat + 1) → TPol K H' v g → Drawn q g terms.toNat reach → Q v H'
theorem mul_room {i j a b : Nat} (hi : i < a) (hj : j < b) (h : a * b ≤ 1000000) : i * b + j < 1000000 := by
  have h1 : (i + 1) * b ≤ a * b := Nat.mul_le_mul_right b hi
  rw [Nat.add_mul, Nat.one_mul] at h1
  omega
theorem neg_mod (a b c p : Int) (h : c = b * -1 % p) : (a + c) % p = (a - b) % p := by
  rw [h, Int.add_emod_emod]
  congr 1
  omega
theorem sm_nf {q : Int} {g : Pol} {F : Int → Int} {L : List Int} (h : Nf q g F) (hq : q ≤ 97) (z : ∀ e, e ∉ L → F e % q = 0) (hl : L.length ≤ 50000) (hb : ∀ e ∈ L, e.natAbs < 10 ^ 100) : Sm g := by
  refine ⟨Nat.le_trans (h.len z) hl, fun t ht => ⟨hb _ (h.sub z t ht), ?_⟩⟩
  have := h.rng t ht
  exact Nat.lt_of_le_of_lt (show t.2.natAbs ≤ 97 by omega) (by decide +kernel)
theorem sm_moved {g : Pol} {n : Int} {q : Int} (hl : g.length ≤ 50000) (hb : ∀ t ∈ g, t.1.natAbs < 10 ^ 95 ∧ 0 < t.2 ∧ t.2 ≤ 97) (hn : n.natAbs < 10 ^ 95) : Sm (moved n g) := by
  refine ⟨by unfold moved; rw [List.length_map]; exact hl, fun t ht => ?_⟩
  obtain ⟨u, hu, rfl⟩ := List.mem_map.mp (show t ∈ g.map fun t => (t.1 + n, t.2) from ht)
  have h1 := hb u hu
  refine ⟨?_, Nat.lt_of_le_of_lt (show u.2.natAbs ≤ 97 by omega) (by decide +kernel)⟩
  have e : 10 ^ 95 + 10 ^ 95 < 10 ^ 100 := by decide +kernel
  show (u.1 + n).natAbs < 10 ^ 100
  omega
theorem drawn_sm {q : Int} {g : Pol} {terms : Nat} {reach : Int} (d : Drawn q g terms reach) (hq : q ≤ 97) (ht : terms ≤ 50000) (hr : reach.natAbs < 10 ^ 90) : Sm g := by
  refine ⟨Nat.le_trans d.len ht, fun t h => ⟨?_, ?_⟩⟩
  · have e : 10 ^ 90 < 10 ^ 100 := by decide +kernel
    have := d.abs t h
    omega
  · have := d.nf.rng t h
    exact Nat.lt_of_le_of_lt (show t.2.natAbs ≤ 97 by omega) (by decide +kernel)
theorem mem_ints {v : V} {ns : List Int} {R : Int → Prop} (h : v ∈ ns.map V.int) (a : ∀ x ∈ ns, R x) : ∃ x, v = .int x ∧ R x := by
  obtain ⟨x, hx, rfl⟩ := List.mem_map.mp h
  exact ⟨x, rfl, a x hx⟩
def sp_law (K : PySem.W.Frag) : Sp := fun vs H Q _ => ∃ (a : Addr) (ns : List Int), vs = [.ref a] ∧ SqL K H a (ns.map V.int) ∧ ns.length ≤ 63 ∧ ∀ H', Q (.bl true) H'
/-! ### effects -/
def TEff (K : PySem.W.Frag) (H : Hp) (v : V) (f : Pol) (n : Int) : Prop := ∃ a x, v = .ref a ∧ SqT K H a [x, .int n] ∧ TPol K H x f
theorem TEff.tp {K : PySem.W.Frag} {H H' : Hp} {v : V} {f : Pol} {n : Int} (e : Tp H H') (h : TEff K H v f n) : TEff K H' v f n := by
  obtain ⟨a, x, rfl, hs, hx⟩ := h
  exact ⟨a, x, rfl, tp_t e hs, hx.tp e⟩
def ed (f : Pol) (n : Int) : PyData := .tuple [pd f, .int n]
theorem TEff.dp {K : PySem.W.Frag} {H : Hp} {v : V} {f : Pol} {n : Int} (h : TEff K H v f n) : Dp K H v (ed f n) := by
  obtain ⟨a, x, rfl, hs, hx⟩ := h
  exact .tup hs (.cons hx.dp (.cons (.int _) .nil))
theorem TEff.shows {K : PySem.W.Frag} {H : Hp} {v : V} {f : Pol} {n : Int} (h : TEff K H v f n) (s : Sm f) (hn : n.natAbs < 10 ^ 100) : Shows K H v (ed f n) := by
  obtain ⟨a1, a2, a3, a4⟩ := pd_shows s
  obtain ⟨b1, b2⟩ := int_shows hn
  have := s.len
  refine ⟨h.elim fun a z => z.elim fun _ y => ⟨a, y.1⟩, h.dp, ?_, ?_, ?_, ?_⟩
  · show ((pd f).showable && ((PyData.int n).showable && true)) = true
    rw [a1, b1]
    rfl
  · show ((pd f).hasDict || (false || false)) = false
    rw [a2]
    rfl
  · show max (pd f).depth (max 0 0) + 1 ≤ 64
    omega
  · show (tupleText [(pd f).shown, (PyData.int n).shown]).length ≤ sizeLine
    have e := tupleText_len_le [(pd f).shown, (PyData.int n).shown]
    simp only [List.map_cons, List.map_nil, List.sum_cons, List.sum_nil, List.length_cons, List.length_nil] at e
    rw [sizeLine_eq]
    omega
theorem ed_shaped (f : Pol) (n : Int) : SeqAt.shaped (ed f n) = true := by
  obtain ⟨a, b⟩ := prs_lay f
  show (((PyData.canLayAll0 (f.map pr)) && (true && true)) && decide (max (PyData.depthAll (f.map pr) + 1) (max 0 0) + 1 ≤ 64)) = true
  rw [a, decide_eq_true (by omega)]
  rfl
def sp_compose (K : PySem.W.Frag) : Sp := fun vs H Q _ => ∃ (p : Int) (v1 v2 : V) (f g : Pol) (m n : Int), vs = [.int p, v1, v2] ∧ 0 < p ∧ TEff K H v1 f m ∧ TEff K H v2 g n ∧ f.length + g.length ≤ 1000000 ∧ ∀ u H' r, Same H H' → TEff K H' u r (m + n) → Nf p r (fun e => cf f e + cf g (e - m)) → Q u H'
def sp_inverse (K : PySem.W.Frag) : Sp := fun vs H Q _ => ∃ (p : Int) (v : V) (f : Pol) (m : Int), vs = [.int p, v] ∧ 0 < p ∧ TEff K H v f m ∧ f.length ≤ 1000000 ∧ (∀ t ∈ f, -(2 ^ 64) < t.2 ∧ t.2 < 2 ^ 64) ∧ ∀ u H' r, Same H H' → TEff K H' u r (-m) → Nf p r (fun e => cf f (e + m) * -1) → Q u H'
def sp__law_effect (K : PySem.W.Frag) : Sp := fun vs H Q _ => ∃ (p c : Addr) (q terms reach : Int) (n : Nat), vs = [.ref p, .int q, .int terms, .int reach] ∧ 2 ≤ q ∧ q ≤ 97 ∧ 0 ≤ terms ∧ terms ≤ 1000 ∧ 0 ≤ reach ∧ reach.natAbs < 10 ^ 90 ∧ PenAt H p c n ∧ n < 2 ^ 38 ∧
  ∀ v H' g sh, Kp p H H' → PenAt H' p c (n + 2 * terms.toNat + 3) → TEff K H' v g sh → Drawn q g terms.toNat reach → sh.natAbs ≤ reach.natAbs → Q v H'
theorem atI3 {a b c : V} {r : Int} (h0 : 0 ≤ r) (h9 : r < 3) : atI [a, b, c] r = some a ∨ atI [a, b, c] r = some b ∨ atI [a, b, c] r = some c := by
  have : r = 0 ∨ r = 1 ∨ r = 2 := by omega
  rcases this with rfl | rfl | rfl
  · exact .inl rfl
  · exact .inr (.inl rfl)
  · exact .inr (.inr rfl)
theorem moved_len (n : Int) (f : Pol) : (moved n f).length = f.length := by
  unfold moved
  rw [List.length_map]
/-! ### a comprehension that draws -/
theorem lcPen {K : PySem.W.Frag} {p c : Addr} {σ : L2.St} {H : Hp} {vs : List Nat} {i : Nat} {te : TE} {Q : VK} (R : Hp → V → Prop) (stay : ∀ {H H' : Hp} {v : V}, Tp H H' → R H v → R H' v) (n : Nat) {z : Int} (hz : z = (n : Int)) (b cost : Nat) (hn : n ≤ 1000)
    (hw : ∀ x, wipe ((wipe σ vs).set i (some x)) vs = wipe σ vs) (pen : PenAt H p c b)
    (he : ∀ (m : Nat), m < n → ∀ H2, Kp p H H2 → PenAt H2 p c (b + cost * m) → ∀ S : VK, (∀ v H3, Kp p H2 H3 → PenAt H3 p c (b + cost * (m + 1)) → R H3 v → S v H3) → te ((wipe σ vs).set i (some (.int (0 + (m : Int))))) H2 S)
    (k : ∀ D xs H2, xs.length = n → H2 D = some (.lst xs) → (∀ v ∈ xs, R H2 v) → Kp p H H2 → PenAt H2 p c (b + cost * n) → Q (.ref D) H2) : tLc (iRng1 (tCons (tC (.int z)) tNil)) (gName i) tYes te vs σ H Q := by
  subst hz
  refine ⟨(n : Int), rfl, by omega, by omega, fun D nD => lc_range (lo := 0) (n := ((n : Int)).toNat) (fun m H2 => ∃ xs, H2 D = some (.lst xs) ∧ xs.length = m ∧ (∀ v ∈ xs, R H2 v) ∧ Kp p H H2 ∧ PenAt H2 p c (b + cost * m)) ⟨[], upd_same, rfl, fun v h => absurd h List.not_mem_nil, Same.kp (same_new nD), pen.same (same_new nD)⟩ ?_ ?_⟩
  · rintro m H2 hm ⟨xs, hD, hl, hR, kp, pen2⟩
    refine ⟨hw _, ?_⟩
    dsimp only [tYes]
    rw [if_pos rfl]
    refine he m (by omega) H2 kp pen2 _ fun v H3 k3 pen3 hv => ?_
    have npD := pen.np nD
    have ncD := pen.nc nD
    have hD3 : H3 D = some (.lst xs) := k3 _ _ npD hD
    refine ⟨xs, hD3, sl_lt (by omega), xs ++ [v], upd_same, by rw [List.length_append, hl]; rfl, fun w hw' => ?_, fun x o nx ex => ?_, pen3.upd npD ncD⟩
    · have t3 : Tp H3 (upd H3 D (.lst (xs ++ [v]))) := tp_lst hD3
      rcases List.mem_append.mp hw' with h | h
      · exact stay ((pen2.tp k3).trans t3) (hR w h)
      · have e : w = v := by simpa using h
        rw [e]
        exact stay t3 hv
    · rw [upd_ne (ne_of_none ex nD)]
      exact k3 _ _ nx (kp _ _ nx ex)
  · rintro H2 ⟨xs, hD, hl, hR, kp, pen2⟩
    exact k D xs H2 (by rw [hl]; omega) hD hR kp (pen2.mono (by rw [Int.toNat_natCast]; exact Nat.le_refl _))
theorem three {α : Type} {xs : List α} (h : xs.length = 3) : ∃ a b c, xs = [a, b, c] := by
  match xs, h with
  | [a, b, c], _ => exact ⟨a, b, c, rfl⟩
/-! ### comparisons of data -/
theorem iteE {A B : Prop} (r : Pol) (h : B) : if (!PyData.eqv (pd r) (pd r)) = true then A else B := by
  rw [SeqAt.eqv_refl _ (SeqAt.canLay_of_shaped (pd_shaped r))]
  exact iteF h
theorem iteEE {A B : Prop} (r : Pol) (n : Int) (h : B) : if (!PyData.eqv (ed r n) (ed r n)) = true then A else B := by
  rw [SeqAt.eqv_refl _ (SeqAt.canLay_of_shaped (ed_shaped r n))]
  exact iteF h
theorem eqv_nil (f : Pol) : PyData.eqv (pd f) (pd []) = decide (f = []) := by
  cases f with
  | nil => rfl
  | cons t r => rfl
theorem Nf.cfs {q : Int} {g : Pol} {F : Int → Int} (h : Nf q g F) (hq : q ≤ 97) : ∀ t ∈ g, -(2 ^ 64) < t.2 ∧ t.2 < 2 ^ 64 := fun t ht => by
  have := h.rng t ht
  omega
theorem len_add {q : Int} {f g r : Pol} (N : Nf q r (fun e => cf f e + cf g e)) : r.length ≤ f.length + g.length := by
  have := N.len (L := f.map (·.1) ++ g.map (·.1)) fun e he => by
    rw [cf_out (fun z => he (List.mem_append_left _ z)), cf_out (fun z => he (List.mem_append_right _ z))]
    rfl
  rw [List.length_append, List.length_map, List.length_map] at this
  exact this
theorem len_sub {q : Int} {f g r : Pol} (N : Nf q r (fun e => cf f e - cf g e)) : r.length ≤ f.length + g.length := by
  have := N.len (L := f.map (·.1) ++ g.map (·.1)) fun e he => by
    rw [cf_out (fun z => he (List.mem_append_left _ z)), cf_out (fun z => he (List.mem_append_right _ z))]
    rfl
  rw [List.length_append, List.length_map, List.length_map] at this
  exact this
theorem len_mul {q : Int} {f g r : Pol} (N : Nf q r (cf (prods f g))) : r.length ≤ f.length * g.length := by
  have := N.len (L := (prods f g).map (·.1)) fun e he => by
    rw [cf_out he]
    rfl
  rw [List.length_map, prods_len] at this
  exact this
theorem len_scale {q k : Int} {f r : Pol} (N : Nf q r (fun e => cf f e * k)) : r.length ≤ f.length := by
  have := N.len (L := f.map (·.1)) fun e he => by
    rw [cf_out he, Int.zero_mul]
    rfl
  rw [List.length_map] at this
  exact this
theorem nf_nil {q : Int} {F : Int → Int} (h : ∀ e, F e % q = 0) : Nf q [] F := ⟨.nil, fun t h => absurd h List.not_mem_nil, fun e => by rw [h]; rfl⟩
theorem nz_check : (primes.all fun q => (List.range q.toNat).all fun a => (List.range q.toNat).all fun b => a == 0 || b == 0 || (a * b % q.toNat != 0)) = true := by decide +kernel
theorem prime_nz {q : Int} (hq : q ∈ primes) {a b : Int} (ha : 0 < a) (ha' : a < q) (hb : 0 < b) (hb' : b < q) : a * b % q ≠ 0 := by
  intro h
  have h1 := List.all_eq_true.mp nz_check q hq
  have h2 := List.all_eq_true.mp h1 a.toNat (List.mem_range.mpr (by omega))
  have h3 := List.all_eq_true.mp h2 b.toNat (List.mem_range.mpr (by omega))
  simp only [Bool.or_eq_true, beq_iff_eq, bne_iff_ne, ne_eq] at h3
  rcases h3 with (h3 | h3) | h3
  · omega
  · omega
  · apply h3
    have e : ((a.toNat * b.toNat % q.toNat : Nat) : Int) = a * b % q := by
      rw [Int.natCast_emod, Int.natCast_mul, Int.toNat_of_nonneg (by omega), Int.toNat_of_nonneg (by omega), Int.toNat_of_nonneg (by omega)]
    rw [h] at e
    omega
theorem nf_one {q e c : Int} (h1 : 0 < c) (h2 : c < q) : Nf q [(e, c)] (cf [(e, c)]) := by
  refine ⟨List.pairwise_singleton _ _, fun t h => ?_, fun x => ?_⟩
  · have : t = (e, c) := by simpa using h
    rw [this]
    exact ⟨h1, h2⟩
  · rw [cf_cons, cf_nil]
    by_cases h : e = x
    · rw [if_pos h, Int.add_zero, Int.emod_eq_of_lt (by omega) h2]
    · rw [if_neg h]
      rfl
theorem len_rounds {q st : Int} {n : Nat} {r : Pol} {L : Nat} (N : Nf q r (cf (rounds n st))) (h : n ≤ L) : r.length ≤ L := by
  have := N.len (L := (rounds n st).map (·.1)) fun e he => by
    rw [cf_out he]
    rfl
  unfold rounds at this
  rw [List.length_map, List.length_map, List.length_range] at this
  omega
theorem len_comp {q m : Int} {f g r : Pol} (N : Nf q r (fun e => cf f e + cf g (e - m))) : r.length ≤ f.length + g.length := by
  have N' : Nf q r (fun e => cf f e + cf (moved m g) e) := N.to fun e => by rw [cf_moved]
  have := len_add N'
  rw [moved_len] at this
  exact this
theorem len_inv {q m : Int} {f r : Pol} (N : Nf q r (fun e => cf f (e + m) * -1)) : r.length ≤ f.length := by
  have N' : Nf q r (fun e => cf (moved (-m) f) e * -1) := N.to fun e => by rw [cf_moved, Int.sub_neg]
  have := len_scale N'
  rw [moved_len] at this
  exact this
theorem teff_sh {K : PySem.W.Frag} {H : Hp} {v : V} {f : Pol} {m n : Int} (e : m = n) (h : TEff K H v f m) : TEff K H v f n := by
  rw [← e]
  exact h
theorem undo_add (a b q : Int) : ((a + b) % q - b) % q = a % q := by
  rw [Int.sub_emod, Int.emod_emod, ← Int.sub_emod]
  congr 1
  omega
theorem geo_close {q st cnt : Int} {gap geo : Pol} (Ng : Nf q gap (fun e => cf [(0, 1)] e - cf [(st, 1)] e)) (No : Nf q geo (cf (rounds cnt.toNat st))) (h0 : 0 ≤ cnt) (e : Int) : cf (prods gap geo) e % q = (cf [(0, 1)] e - cf [(cnt * st, 1)] e) % q := by
  rw [cf_prods, conv_fst (f' := [(0, 1), (st, -1)]) (fun x => ?_) geo e, conv_mod (G' := cf (rounds cnt.toNat st)) (fun x => by rw [No.cof, Int.emod_emod])]
  · show (1 * cf (rounds cnt.toNat st) (e - 0) + (-1 * cf (rounds cnt.toNat st) (e - st) + 0)) % q = ((if 0 = e then 1 else 0) + 0 - ((if cnt * st = e then 1 else 0) + 0)) % q
    have h := rounds_tel st e cnt.toNat
    rw [Int.toNat_of_nonneg h0] at h
    congr 1
    rw [Int.sub_zero]
    omega
  · rw [Ng.cof, Int.emod_emod]
    congr 1
    show (if 0 = x then 1 else 0) + 0 - ((if st = x then 1 else 0) + 0) = (if 0 = x then 1 else 0) + ((if st = x then -1 else 0) + 0)
    by_cases h : st = x
    · rw [if_pos h, if_pos h]
      omega
    · rw [if_neg h, if_neg h]
      omega
theorem prod_ne {q : Int} {f g r : Pol} (hq : q ∈ primes) (nf : Nf q f (cf f)) (ng : Nf q g (cf g)) (nr : Nf q r (cf (prods f g))) (hf : f ≠ []) (hg : g ≠ []) : r ≠ [] := by
  intro hr
  obtain ⟨t, f', rfl⟩ := List.exists_cons_of_ne_nil hf
  obtain ⟨u, g', rfl⟩ := List.exists_cons_of_ne_nil hg
  have h := nr.cof (t.1 + u.1)
  rw [hr, cf_prods, conv_least nf.asc ng.asc] at h
  have a := nf.rng t List.mem_cons_self
  have b := ng.rng u List.mem_cons_self
  exact prime_nz hq a.1 a.2 b.1 b.2 h.symm
def sp_power0 (K : PySem.W.Frag) : Sp := fun vs H Q _ => ∃ (p : Int) (v : V) (f : Pol) (m c : Int), vs = [.int p, v, .int c] ∧ 0 < p ∧ TEff K H v f m ∧ 0 ≤ c ∧ c.natAbs ≤ 1000 ∧ f.length ≤ 1000 ∧ (∀ t ∈ f, -(2 ^ 64) < t.2 ∧ t.2 < 2 ^ 64) ∧ ∀ u H' r, Same H H' → TEff K H' u r (c * m) → Nf p r (fun e => pwF (cf f) m c e) → r.length ≤ f.length * c.natAbs → Q u H'
def sp_power (K : PySem.W.Frag) : Sp := fun vs H Q _ => ∃ (p : Int) (v : V) (f : Pol) (m c : Int), vs = [.int p, v, .int c] ∧ 0 < p ∧ p ≤ 97 ∧ TEff K H v f m ∧ c.natAbs ≤ 1000 ∧ f.length ≤ 1000 ∧ (∀ t ∈ f, -(2 ^ 64) < t.2 ∧ t.2 < 2 ^ 64) ∧ ∀ u H' r, Same H H' → TEff K H' u r (c * m) → Nf p r (fun e => pwF (cf f) m c e) → r.length ≤ f.length * c.natAbs → Q u H'
/-- order, of an effect that does not move -/
def sp_order (K : PySem.W.Frag) : Sp := fun vs H Q _ => ∃ (p : Int) (v : V) (f : Pol), vs = [.int p, v] ∧ TEff K H v f 0 ∧ Q (.int (if f = [] then 1 else p)) H
theorem Nf.subP {p : Int} {g : Pol} {F : Int → Int} {R : Int → Prop} (a : Nf p g F) (h : ∀ e, ¬ R e → F e % p = 0) : ∀ t ∈ g, R t.1 := fun t ht => by
  refine Classical.byContradiction fun n => ?_
  have e1 := a.cof t.1
  rw [cf_mem a.asc t ht, h _ n] at e1
  have := (a.rng t ht).1
  omega
theorem pow_sm {q m c : Int} {f r : Pol} (N : Nf q r (fun e => pwF (cf f) m c e)) (hq : q ≤ 97) (l : r.length ≤ 50000) (hf : ∀ t ∈ f, t.1.natAbs < 10 ^ 90) (hm : m.natAbs < 10 ^ 90) (hc : c.natAbs ≤ 1000) : Sm r := by
  refine ⟨l, fun t ht => ⟨N.subP (R := fun e => e.natAbs < 10 ^ 100) (fun e he => ?_) t ht, ?_⟩⟩
  · rw [pw_far c fun k hk => ?_]
    · rfl
    · refine cf_none f _ fun u hu z => he ?_
      have h1 := hf u hu
      have h2 : (k * m).natAbs ≤ 1000 * 10 ^ 90 := by
        rw [Int.natAbs_mul]
        exact Nat.mul_le_mul (Nat.le_trans hk hc) (Nat.le_of_lt hm)
      have h3 : 1000 * 10 ^ 90 + 10 ^ 90 < 10 ^ 100 := by decide +kernel
      have h4 : e = u.1 + k * m := by omega
      rw [h4]
      generalize k * m = km at h2
      omega
  · have := N.rng t ht
    exact Nat.lt_of_le_of_lt (show t.2.natAbs ≤ 97 by omega) (by decide +kernel)
end DR
namespace DR
open PySem PySem.Spec PyProof.Rows L2
/-! ### any data, and what is told of it -/
def tyName : PyData → String
  | .none => "NoneType"
  | .bool _ => "bool"
  | .int _ => "int"
  | .str _ => "str"
  | .list _ => "list"
  | .tuple _ => "tuple"
  | .dict _ => "dict"
def isTup : PyData → Bool
  | .tuple _ => true
  | _ => false
def isInt' : PyData → Bool
  | .int _ => true
  | .bool _ => true
  | _ => false
def isBool : PyData → Bool
  | .bool _ => true
  | _ => false
def isWhole : PyData → Bool
  | .int _ => true
  | _ => false
def isTerm (p : Int) : PyData → Bool
  | .tuple [.int _, .int c] => decide (1 ≤ c) && decide (c < p)
  | _ => false
def expo : PyData → Int
  | .tuple (.int e :: _) => e
  | _ => 0
def ascD : List PyData → Bool
  | x :: y :: r => decide (expo x < expo y) && ascD (y :: r)
  | _ => true
def isPoly (p : Int) : PyData → Bool
  | .tuple ds => ds.all (isTerm p) && ascD ds
  | _ => false
def isEff (p : Int) : PyData → Bool
  | .tuple [a, b] => isPoly p a && isWhole b
  | _ => false
/-- data, or an empty dict -/
def DpX (K : PySem.W.Frag) (H : Hp) (v : V) (d : PyData) : Prop := Dp K H v d ∨ ∃ a, v = .ref a ∧ H a = some (.dK []) ∧ d = .dict []
section
variable {K : PySem.W.Frag} {H H' : Hp} {v : V} {d : PyData}
theorem Dp.ty (h : Dp K H v d) : TyX K H v (.type (tyName d)) := by
  cases h with
  | non => exact .base .non
  | bl b => exact .base (.bl b)
  | int i => exact .base (.int i)
  | str x => exact .base (.str x)
  | lst hs _ =>
    rcases hs with (h | ⟨o, h⟩) | ⟨o, its, n, h, c, _⟩
    · exact .base (.lst h)
    · exact .base (.frz h)
    · exact .kList h c
  | tup hs _ =>
    rcases hs with (h | ⟨o, h⟩) | ⟨o, its, n, h, c, _⟩
    · exact .base (.tup h)
    · exact .fTuple h
    · exact .kTuple h c
theorem DpX.ty (h : DpX K H v d) : TyX K H v (.type (tyName d)) := by
  rcases h with h | ⟨a, rfl, h, rfl⟩
  · exact Dp.ty h
  · exact .base (.dK h)
theorem kit_tuple (d : PyData) : PySem.W.kitOne K (.type (tyName d)) (.type "tuple") = some (isTup d) := by
  cases d with
  | none => exact kit_ty (show kitB "NoneType" "tuple" = some false by decide +kernel)
  | bool b => exact kit_ty (show kitB "bool" "tuple" = some false by decide +kernel)
  | int i => exact kit_ty (show kitB "int" "tuple" = some false by decide +kernel)
  | str x => exact kit_ty (show kitB "str" "tuple" = some false by decide +kernel)
  | list xs => exact kit_ty (show kitB "list" "tuple" = some false by decide +kernel)
  | tuple xs => exact kit_ty (show kitB "tuple" "tuple" = some true by decide +kernel)
  | dict kvs => exact kit_ty (show kitB "dict" "tuple" = some false by decide +kernel)
theorem kit_int (d : PyData) : PySem.W.kitOne K (.type (tyName d)) (.type "int") = some (isInt' d) := by
  cases d with
  | none => exact kit_ty (show kitB "NoneType" "int" = some false by decide +kernel)
  | bool b => exact kit_ty (show kitB "bool" "int" = some true by decide +kernel)
  | int i => exact kit_ty (show kitB "int" "int" = some true by decide +kernel)
  | str x => exact kit_ty (show kitB "str" "int" = some false by decide +kernel)
  | list xs => exact kit_ty (show kitB "list" "int" = some false by decide +kernel)
  | tuple xs => exact kit_ty (show kitB "tuple" "int" = some false by decide +kernel)
  | dict kvs => exact kit_ty (show kitB "dict" "int" = some false by decide +kernel)
theorem kit_bool (d : PyData) : PySem.W.kitOne K (.type (tyName d)) (.type "bool") = some (isBool d) := by
  cases d with
  | none => exact kit_ty (show kitB "NoneType" "bool" = some false by decide +kernel)
  | bool b => exact kit_ty (show kitB "bool" "bool" = some true by decide +kernel)
  | int i => exact kit_ty (show kitB "int" "bool" = some false by decide +kernel)
  | str x => exact kit_ty (show kitB "str" "bool" = some false by decide +kernel)
  | list xs => exact kit_ty (show kitB "list" "bool" = some false by decide +kernel)
  | tuple xs => exact kit_ty (show kitB "tuple" "bool" = some false by decide +kernel)
  | dict kvs => exact kit_ty (show kitB "dict" "bool" = some false by decide +kernel)
mutual
theorem Dp.same (e : Same H H') : ∀ {v : V} {d : PyData}, Dp K H v d → Dp K H' v d
  | _, _, .non => .non
  | _, _, .bl b => .bl b
  | _, _, .int i => .int i
  | _, _, .str x => .str x
  | _, _, .lst hs ha => .lst (e.seq hs) (DpAll.same e ha)
  | _, _, .tup hs ha => .tup (same_t e hs) (DpAll.same e ha)
theorem DpAll.same (e : Same H H') : ∀ {vs : List V} {ds : List PyData}, DpAll K H vs ds → DpAll K H' vs ds
  | _, _, .nil => .nil
  | _, _, .cons h t => .cons (Dp.same e h) (DpAll.same e t)
end
theorem DpX.same (e : Same H H') (h : DpX K H v d) : DpX K H' v d := h.elim (fun z => .inl (Dp.same e z)) fun ⟨a, e1, e2, e3⟩ => .inr ⟨a, e1, e _ _ e2, e3⟩
theorem DpAll.len : ∀ {vs : List V} {ds : List PyData}, DpAll K H vs ds → vs.length = ds.length
  | _, _, .nil => rfl
  | _, _, .cons _ t => by rw [List.length_cons, List.length_cons, DpAll.len t]
theorem DpAll.get : ∀ {vs : List V} {ds : List PyData} {i : Nat} {x : V}, DpAll K H vs ds → vs[i]? = some x → ∃ d, ds[i]? = some d ∧ Dp K H x d
  | _, _, _, _, .nil, e => by simp at e
  | _, _, 0, _, .cons h _, e => by
    simp at e
    subst e
    exact ⟨_, rfl, h⟩
  | _, _, i + 1, x, .cons _ t, e => by
    obtain ⟨d, h1, h2⟩ := DpAll.get (i := i) (x := x) t (by simpa using e)
    exact ⟨d, by simpa using h1, h2⟩
/-- a tuple's items -/
theorem Dp.tup_inv {ds : List PyData} (h : Dp K H v (.tuple ds)) : ∃ a xs, v = .ref a ∧ SqT K H a xs ∧ DpAll K H xs ds := by
  cases h with
  | tup hs ha => exact ⟨_, _, rfl, hs, ha⟩
theorem Dp.pair_inv {e c : Int} (h : Dp K H v (.tuple [.int e, .int c])) : ∃ a, v = .ref a ∧ SqT K H a [.int e, .int c] := by
  cases h with
  | tup hs ha =>
    cases ha with
    | cons h1 t =>
      cases t with
      | cons h2 t2 =>
        cases t2
        cases h1
        cases h2
        exact ⟨_, rfl, hs⟩
theorem Dp.int_inv {i : Int} (h : Dp K H v (.int i)) : v = .int i := by
  cases h
  rfl
end
theorem isTup_inv {d : PyData} (h : isTup d = true) : ∃ ds, d = .tuple ds := by
  cases d <;> first | exact ⟨_, rfl⟩ | cases h
theorem isWhole_inv {d : PyData} (h : isWhole d = true) : ∃ i, d = .int i := by
  cases d <;> first | exact ⟨_, rfl⟩ | cases h
theorem isTerm_inv {p : Int} {d : PyData} (h : isTerm p d = true) : ∃ e c, d = .tuple [.int e, .int c] ∧ 1 ≤ c ∧ c < p := by
  unfold isTerm at h
  split at h
  · rename_i e c
    rw [Bool.and_eq_true, decide_eq_true_eq, decide_eq_true_eq] at h
    exact ⟨e, c, rfl, h.1, h.2⟩
  · cases h
def sp_is_whole (K : PySem.W.Frag) : Sp := fun vs H Q _ => ∃ (v : V) (d : PyData), vs = [v] ∧ DpX K H v d ∧ Q (.bl (isWhole d)) H
def sp_is_term (K : PySem.W.Frag) : Sp := fun vs H Q _ => ∃ (p : Int) (v : V) (d : PyData), vs = [.int p, v] ∧ Dp K H v d ∧ Q (.bl (isTerm p d)) H
def sp_is_polynomial (K : PySem.W.Frag) : Sp := fun vs H Q _ => ∃ (p : Int) (v : V) (d : PyData), vs = [.int p, v] ∧ DpX K H v d ∧ (∀ ds, d = .tuple ds → ds.length ≤ 1000000) ∧ ∀ H', Same H H' → Q (.bl (isPoly p d)) H'
def sp_is_effect (K : PySem.W.Frag) : Sp := fun vs H Q _ => ∃ (p : Int) (v : V) (d : PyData), vs = [.int p, v] ∧ DpX K H v d ∧ (∀ ds es, d = .tuple ds → PyData.tuple es ∈ ds → es.length ≤ 1000000) ∧ ∀ H', Same H H' → Q (.bl (isEff p d)) H'
/-- [f(x) for x in a tuple], f a truth value -/
theorem lcBool {K : PySem.W.Frag} {a : Addr} {xs : List V} {ds : List PyData} {σ : L2.St} {H : Hp} {vs : List Nat} {n i : Nat} {te : TE} {Q : VK} (f : PyData → Bool) (hv : σ[n]? = some (some (.ref a))) (hs : SqT K H a xs) (hP : DpAll K H xs ds) (hl : ds.length ≤ 1000000)
    (hw : ∀ x, wipe ((wipe σ vs).set i (some x)) vs = wipe σ vs)
    (he : ∀ x d H2, Same H H2 → Dp K H2 x d → ∀ R : VK, R (.bl (f d)) H2 → te ((wipe σ vs).set i (some x)) H2 R)
    (k : ∀ D H2, Same H H2 → H2 D = some (.lst ((ds.map f).map V.bl)) → Q (.ref D) H2) : tLc (iTup K (tVar n)) (gName i) tYes te vs σ H Q := by
  refine ⟨_, hv, a, rfl, ⟨_, hs⟩, fun D nD => lc_tup (K := K) (a := a) (xs := xs) (fun m H2 => Same H H2 ∧ H2 D = some (.lst (((ds.take m).map f).map V.bl))) ⟨same_new nD, upd_same⟩ (fun m H2 _ g => same_t g.1 hs) ?_ ?_⟩
  · rintro m x H2 hm ⟨s2, h2⟩
    obtain ⟨d, hd, hx⟩ := DpAll.get hP hm
    refine ⟨hw _, ?_⟩
    dsimp only [tYes]
    rw [if_pos rfl]
    have hm2 : m < ds.length := (List.getElem?_eq_some_iff.mp hd).1
    refine he x d H2 s2 (Dp.same s2 hx) _ ⟨_, h2, sl_lt (by rw [List.length_map, List.length_map, List.length_take]; omega), same_mut s2 nD, ?_⟩
    rw [upd_same, take_snoc hd, List.map_append, List.map_append]
    rfl
  · rintro H2 ⟨s2, h2⟩
    rw [DpAll.len hP, List.take_length] at h2
    exact k D H2 s2 h2
theorem cut1 (xs : List V) : cutV xs (some 1) none = xs.drop 1 := by
  unfold cutV
  rw [show HT.sIx xs.length 0 (some 1) = min 1 xs.length from HT.sIx_nat xs.length 0 1, HT.sIx_none]
  cases xs with
  | nil => rfl
  | cons x r =>
    rw [show min 1 (x :: r).length = 1 by
      rw [List.length_cons]
      omega]
    show (List.take ((x :: r).length - 1) r) = r
    rw [List.length_cons, Nat.add_sub_cancel]
    exact List.take_length
/-- the pairs of neighbours, compared -/
def ups : List PyData → List Bool
  | x :: y :: r => decide (expo x < expo y) :: ups (y :: r)
  | _ => []
theorem ups_len : ∀ ds : List PyData, (ups ds).length = ds.length - 1
  | [] => rfl
  | [_] => rfl
  | x :: y :: r => by
    show (ups (y :: r)).length + 1 = _
    rw [ups_len (y :: r)]
    show r.length + 1 - 1 + 1 = r.length + 1 + 1 - 1
    omega
theorem ups_get : ∀ (ds : List PyData) (i : Nat) (x y : PyData), ds[i]? = some x → ds[i + 1]? = some y → (ups ds)[i]? = some (decide (expo x < expo y))
  | [], _, _, _, h, _ => by simp at h
  | [_], 0, _, _, _, h => by simp at h
  | [_], i + 1, _, _, h, _ => by simp at h
  | a :: b :: r, 0, x, y, h, h2 => by
    have e1 : a = x := Option.some.inj h
    have e2 : b = y := Option.some.inj h2
    rw [← e1, ← e2]
    rfl
  | a :: b :: r, i + 1, x, y, h, h2 => ups_get (b :: r) i x y h h2
theorem ups_all : ∀ ds : List PyData, (ups ds).all id = ascD ds
  | [] => rfl
  | [_] => rfl
  | x :: y :: r => by
    show (decide (expo x < expo y) && (ups (y :: r)).all id) = _
    rw [ups_all (y :: r)]
    rfl
/-! ### what canonical polynomials and effects are told to be -/
theorem term_pr {p : Int} {t : Int × Int} (h : 0 < t.2 ∧ t.2 < p) : isTerm p (pr t) = true := by
  show (decide (1 ≤ t.2) && decide (t.2 < p)) = true
  rw [decide_eq_true (by omega), decide_eq_true h.2]
  rfl
theorem asc_prs : ∀ {g : Pol}, (g.Pairwise fun x y => x.1 < y.1) → ascD (g.map pr) = true
  | [], _ => rfl
  | [_], _ => rfl
  | t :: u :: r, h => by
    have a := List.pairwise_cons.mp h
    show (decide (t.1 < u.1) && ascD ((u :: r).map pr)) = true
    rw [decide_eq_true (a.1 u List.mem_cons_self), asc_prs a.2]
    rfl
theorem nf_poly {p : Int} {g : Pol} {F : Int → Int} (h : Nf p g F) : isPoly p (pd g) = true := by
  show ((g.map pr).all (isTerm p) && ascD (g.map pr)) = true
  rw [asc_prs h.asc, Bool.and_true, List.all_eq_true]
  intro x hx
  obtain ⟨t, ht, rfl⟩ := List.mem_map.mp hx
  exact term_pr (h.rng t ht)
theorem nf_eff {p : Int} {g : Pol} {F : Int → Int} (h : Nf p g F) (n : Int) : isEff p (ed g n) = true := by
  show (isPoly p (pd g) && true) = true
  rw [nf_poly h]
  rfl
/-- [t[0] < f[0] for t, f in zip(x, x[1:])] -/
theorem lcZip {K : PySem.W.Frag} {a b : Addr} {xs : List V} {ds : List PyData} {σ : L2.St} {H : Hp} {vs : List Nat} {i j : Nat} {te : TE} {Q : VK} (hs : SqT K H a xs) (hb : SqT K H b (xs.drop 1)) (hP : DpAll K H xs ds) (hl : ds.length ≤ 1000000)
    (hw : ∀ x y, wipe (((wipe σ vs).set i (some x)).set j (some y)) vs = wipe σ vs)
    (he : ∀ x y d d' H2, Same H H2 → d ∈ ds → d' ∈ ds → Dp K H2 x d → Dp K H2 y d' → ∀ R : VK, R (.bl (decide (expo d < expo d'))) H2 → te (((wipe σ vs).set i (some x)).set j (some y)) H2 R)
    (k : ∀ D H2, Same H H2 → H2 D = some (.lst ((ups ds).map V.bl)) → Q (.ref D) H2) : tLc (fun _ H R => R (RZ.ItzT K a b) H) (gTup K 2 (gCons (gName i) (gCons (gName j) gNil))) tYes te vs σ H Q := by
  intro D nD
  have hlen : xs.length = ds.length := DpAll.len hP
  refine ⟨fun m r H2 => m + r = ds.length - 1 ∧ Same H H2 ∧ H2 D = some (.lst (((ups ds).take m).map V.bl)), ⟨ds.length - 1, by omega, same_new nD, upd_same⟩, fun m r H2 hW => ?_⟩
  obtain ⟨em, s2, h2⟩ := hW
  have hA : SqT K H2 a xs := same_t s2 hs
  have hB : SqT K H2 b (xs.drop 1) := same_t s2 hb
  by_cases hm : m < ds.length - 1
  · have m1 : m < xs.length := by omega
    have m2 : m + 1 < xs.length := by omega
    have g1 : xs[m]? = some xs[m] := List.getElem?_eq_getElem m1
    have g2 : (xs.drop 1)[m]? = some xs[m + 1] := by
      rw [List.getElem?_drop, Nat.add_comm 1 m, List.getElem?_eq_getElem m2]
    obtain ⟨d, hd, hx⟩ := DpAll.get hP g1
    obtain ⟨d', hd', hy⟩ := DpAll.get hP (List.getElem?_eq_getElem m2)
    have gu := ups_get ds m d d' hd hd'
    refine .inr ⟨⟨xs, xs.drop 1, _, _, hA, hB, g1, g2⟩, fun H' => Same H H' ∧ H' D = some (.lst (((ups ds).take (m + 1)).map V.bl)), fun H' hN => ⟨r - 1, by omega, by omega, hN.1, hN.2⟩, fun v H' hy' => ?_⟩
    obtain ⟨T, x1, x2, rfl, nT, rfl, f1, f2⟩ := hy'
    have ex1 : x1 = xs[m] := Option.some.inj ((f1 _ hA).symm.trans g1)
    have ex2 : x2 = xs[m + 1] := Option.some.inj ((f2 _ hB).symm.trans g2)
    subst ex1
    subst ex2
    have sT : Same H2 (upd H2 T (.tup [xs[m], xs[m + 1]])) := same_new nT
    have s3 := s2.trans sT
    refine ⟨T, _, rfl, SqT.of upd_same, rfl, _, _, rfl, _, _, rfl, rfl, hw _ _, ?_⟩
    dsimp only [tYes]
    rw [if_pos rfl]
    refine he _ _ d d' _ s3 (List.mem_of_getElem? hd) (List.mem_of_getElem? hd') (Dp.same s3 hx) (Dp.same s3 hy) _ ⟨_, sT _ _ h2, sl_lt ?_, same_mut s3 nD, ?_⟩
    · rw [List.length_map, List.length_take]
      omega
    · rw [upd_same, take_snoc gu, List.map_append]
      rfl
  · refine .inl ⟨⟨xs, xs.drop 1, hA, hB, .inr ?_⟩, ?_⟩
    · rw [List.length_drop]
      omega
    · have e : m = ds.length - 1 := by omega
      rw [e, ← ups_len, List.take_length] at h2
      exact k D H2 s2 h2
theorem two {α : Type} {xs : List α} (h : xs.length = 2) : ∃ a b, xs = [a, b] := by
  match xs, h with
  | [a, b], _ => exact ⟨a, b, rfl⟩
end DR
namespace DR
open PySem PySem.Spec PyProof.Rows L2
/-! ### repr of any data, and of an empty dict -/
section
variable {X : Cx}
theorem call_reprX (hg : X.A.guards = some []) (hu : X.A.units + 100 < cLine) : CallR X (.builtin "repr") (fun xs H Q => ∃ (x : V) (d : PyData), xs = [x] ∧ DpX X.K H x d ∧ d.showable = true ∧ (d.hasDict = true → d = .dict []) ∧ d.depth ≤ 64 ∧ d.shown.length ≤ sizeLine ∧ Q (.str d.shown) H) := by
  intro pins s σ H xs us Q I r h
  obtain ⟨x, d, rfl, hd, hs, hn, hz, hl, q⟩ := h
  obtain ⟨u, rfl, rx⟩ := vals1 r
  rcases hd with hd | ⟨a, rfl, ha, rfl⟩
  · cases hd with
    | non =>
      obtain rfl : u = Value.none := rx
      exact PySem.P.repr_of_none ⟨.str _, H, I.tok _, ⟨_, rfl⟩, q⟩
    | bl b =>
      obtain rfl : u = Value.bool b := rx
      refine PySem.P.repr_of_bool ⟨.str _, H, I.tok _, ⟨_, rfl⟩, ?_⟩
      cases b <;> exact q
    | int i =>
      obtain ⟨t, rfl⟩ := rx
      exact PySem.P.repr_of_int (of_decide_eq_true hs) ⟨.str _, H, I.tok _, ⟨_, rfl⟩, q⟩
    | str y =>
      obtain ⟨t, rfl⟩ := rx
      exact PySem.P.repr_of_str ⟨.str _, H, I.tok _, ⟨_, rfl⟩, q⟩ hl
    | @lst a xs ds h1 h2 =>
      obtain rfl : u = Value.ref a := rx
      obtain ⟨as, rd⟩ := Dp.reads I _ _ _ (Dp.lst h1 h2) rfl
      refine repr_of_reads' rd hs (fun z => absurd (hn z) (by intro e; cases e)) hg (by omega) (fun _ _ e => e) (fun h' t tk hk => ?_) hl
      exact ⟨.str _, H, I.kept hk, ⟨t, rfl⟩, q⟩
    | @tup a xs ds h1 h2 =>
      obtain rfl : u = Value.ref a := rx
      obtain ⟨as, rd⟩ := Dp.reads I _ _ _ (Dp.tup h1 h2) rfl
      refine repr_of_reads' rd hs (fun z => absurd (hn z) (by intro e; cases e)) hg (by omega) (fun _ _ e => e) (fun h' t tk hk => ?_) hl
      exact ⟨.str _, H, I.kept hk, ⟨t, rfl⟩, q⟩
  · obtain rfl : u = Value.ref a := rx
    obtain ⟨z, lo, vs, rel, o, es, ep, e1, ex, e2, _, e4, _⟩ := dk_rd I.hok (Rd.of ha)
    cases rel
    have e5 : es.toList = [] := by
      cases h : es.toList with
      | nil => rfl
      | cons y ys =>
        rw [h] at e4
        cases e4
    have rd : Reads s.heap (.ref a) (.dict []) (a :: [] ++ []) := .dict (kvs := []) e1 ex.1 e2 (by rw [e5]; exact .nil) (by rw [e5]; exact .nil)
    refine repr_of_reads' rd hs (fun _ hm => ?_) hg (by omega) (fun _ _ e => e) (fun h' t tk hk => ?_) hl
    · have e6 : sysModules = a := by simpa using hm
      rw [e6] at lo
      simp at lo
    · exact ⟨.str _, H, I.kept hk, ⟨t, rfl⟩, q⟩
end
end DR
/-! ### t[::-1] of a tuple -/
namespace DRv
open PySem PySem.Spec PyProof.Rows L2 HT
section
variable {prog : Program} {w : World} {A : Around} {E : Value → Shared → Prop} {s : Shared}
theorem fm_congr {α β : Type} {f g : α → Option β} : ∀ {l : List α}, (∀ x ∈ l, f x = g x) → l.filterMap f = l.filterMap g
  | [], _ => rfl
  | x :: l, h => by
    rw [List.filterMap_cons, List.filterMap_cons, h x List.mem_cons_self, fm_congr fun y hy => h y (List.mem_cons_of_mem _ hy)]
theorem applied_back {sl : Addr} {vl vu vs : Value} {n : Nat} {Q : Int × Int × Nat → Shared → Prop} (hs : s.heap.IsSliceOf sl vl vu vs) (pl : IsPart vl none) (pu : IsPart vu none) (ps : IsPart vs (some (-1)))
    (h : Q ((n : Int) - 1, -1, n) s) : wpAny (model prog w) A (Builtin.Slice.sliceApplied (.ref sl) (pure (n : Int))) Q E s := by
  obtain ⟨os, hos, _, hds⟩ := hs
  unfold Builtin.Slice.sliceApplied
  unfold Builtin.Slice.sliceFields
  refine wpAny_bind (wpAny_bind (wpAny_field hos hds (x := vl) rfl (wpAny_bind (wpAny_field hos hds (x := vu) rfl (wpAny_bind (wpAny_field hos hds (x := vs) rfl (wpAny_pure ?_)))))))
  refine wpAny_bind (slicePart_ ps ?_)
  show wpAny _ _ (if ((-1 : Int) == 0) = true then _ else _) _ _ s
  rw [if_neg (by decide)]
  have both := fun R h => slicePart_ (prog := prog) (w := w) (A := A) (E := E) (s := s) (Q := R) pu h
  refine wpAny_bind (slicePart_ pl (wpAny_bind (both _ (wpAny_bind (wpAny_pure ?_)))))
  show wpAny _ _ (match Builtin.Slice.sliceAdjust none none (-1) (n : Int) with | (lo, hi) => pure (lo, (-1 : Int), Builtin.Slice.slicePlaces lo hi (-1))) _ _ s
  have e1 : Builtin.Slice.sliceAdjust none none (-1) (n : Int) = ((n : Int) - 1, -1) := by simp [Builtin.Slice.sliceAdjust]
  have e2 : Builtin.Slice.slicePlaces ((n : Int) - 1) (-1) (-1) = n := by
    simp [Builtin.Slice.slicePlaces]
    try omega
  rw [e1]
  show wpAny _ _ (pure ((n : Int) - 1, (-1 : Int), Builtin.Slice.slicePlaces ((n : Int) - 1) (-1) (-1))) _ _ s
  rw [e2]
  exact wpAny_pure h
theorem pick_back (xs : Array Value) : ((List.range xs.size).filterMap fun (m : Nat) => xs[(((xs.size : Int) - 1) + (m : Int) * -1).toNat]?).toArray = xs.toList.reverse.toArray := by
  congr 1
  have h : ∀ l : List Value, ((List.range l.length).filterMap fun (m : Nat) => l[(((l.length : Int) - 1) + (m : Int) * -1).toNat]?) = l.reverse := by
    intro l
    have e : (List.range l.length).filterMap (fun (m : Nat) => l[(((l.length : Int) - 1) + (m : Int) * -1).toNat]?) = (List.range l.length).filterMap (fun (m : Nat) => l.reverse[m]?) := by
      refine fm_congr fun m hm => ?_
      have hm := List.mem_range.mp hm
      rw [List.getElem?_reverse hm]
      congr 1
      omega
    rw [e]
    have r : ∀ k : List Value, (List.range k.length).filterMap (fun (m : Nat) => k[m]?) = k := by
      intro k
      induction k with
      | nil => rfl
      | cons a k ih =>
        rw [List.length_cons, List.range_succ_eq_map, List.filterMap_cons]
        simp only [List.getElem?_cons_zero, List.filterMap_map]
        congr 1
    have := r l.reverse
    rw [List.length_reverse] at this
    exact this
  have := h xs.toList
  rw [Array.length_toList] at this
  rw [← this]
  refine fm_congr fun m _ => ?_
  rw [Array.getElem?_toList]
theorem tuple_back {t sl : Addr} {items : Array Value} {vl vu vs : Value} {Q : Value → Shared → Prop} (ht : IsTup s.heap t items) (hs : s.heap.IsSliceOf sl vl vu vs) (pl : IsPart vl none) (pu : IsPart vu none) (ps : IsPart vs (some (-1)))
    (h : Q (.ref s.heap.objs.size) { s with heap := s.heap.push { cls := .type "tuple", data := .seq items.toList.reverse.toArray } }) (hsz : items.size ≤ sizeLine) : wpAny (model prog w) A (getItem (.ref t) (.ref sl)) Q E s := by
  have fits : sizeOk (.seq items.toList.reverse.toArray) := by
    show items.toList.reverse.toArray.size ≤ sizeLine
    rw [List.size_toArray, List.length_reverse, Array.length_toList]
    exact hsz
  have ty : s.TypeIs (.ref sl) "slice" := hs.elim fun os z => ⟨os, z.1, z.2.1⟩
  unfold getItem
  try with_reducible refine wpAny_holding ?_
  first | refine wpAny_bind (wpAny_pure ?_) | skip
  refine wpAny_bind (wpAny_sequenceKey ht.typeIs (by decide) ?_)
  refine wpAny_bind (wpAny_callSpecial?_slot (name := Str.ofString "__getitem__") ht.typeIs slot_tuple_getitem (wpAny_call_entry slot_tuple_getitem ht.typeIs entry_tuple_getitem ?_ (args_tuple_getitem _ _)))
  show wpAny _ _ (Builtin.Tuple.tupleItemsOf (.ref t) >>= _) _ _ s
  refine wpAny_bind (tupleItemsOf_ ht (wpAny_bind (wpAny_typeOf ty ?_)))
  rw [if_pos (by decide)]
  refine wpAny_bind (applied_back hs pl pu ps ?_)
  have no : ¬ ((((items.size : Int) - 1) == 0 && (-1 : Int) == 1 && items.size == items.size) = true) := by
    intro q
    have two := (Bool.and_eq_true _ _ ▸ (Bool.and_eq_true _ _ ▸ q).1).2
    exact absurd two (by decide)
  show wpAny _ _ (if (((items.size : Int) - 1) == 0 && (-1 : Int) == 1 && items.size == items.size) = true then _ else _) _ _ s
  rw [if_neg no, pick_back]
  first
    | exact wpAny_bind (m := Builtin.Tuple.tupleExact _) (wpAny_newObj_type (wpAny_pure ⟨_, rfl, wpAny_pure h⟩) fits)
    | exact wpAny_bind (m := Builtin.Tuple.tupleExact _) (wpAny_newObj_type (wpAny_bind (wpAny_pure (wpAny_pure ⟨_, rfl, wpAny_pure h⟩))) fits)
    | exact wpAny_bind (wpAny_bind (m := Builtin.Tuple.tupleExact _) (wpAny_newObj_type (wpAny_pure (wpAny_pure ⟨_, rfl, wpAny_pure h⟩)) fits))
    | exact wpAny_bind (wpAny_bind (m := Builtin.Tuple.tupleExact _) (wpAny_newObj_type (wpAny_pure ⟨_, rfl, wpAny_pure h⟩) fits))
end
section
variable {X : Cx}
def tRevT (K : PySem.W.Frag) (te : TE) : TE := fun σ H Q => te σ H fun x H1 => ∃ a xs, x = .ref a ∧ SqT K H1 a xs ∧ ∀ p, H1 p = none → Q (.ref p) (upd H1 p (.tup xs.reverse))
theorem pe_revT {e : Expr} {te : TE} {k : Nat} {p1 p2 p3 pos : Pos} (he : PE X e te) : PE X (.Subscript e (.Slice none none (some (.UnaryOp .USub (.Constant (.int 1) k p1) p2)) p3) pos) (tRevT X.K te) := by
  refine ⟨fun pins s σ H Q I h => Subscript_ (thn (he.run pins s σ H _ I h) fun v s1 ⟨x, H1, I1, r1, q1⟩ => ?_)⟩
  obtain ⟨a, xs, rfl, hx, q⟩ := q1
  cases r1
  have step : PO X (some (.UnaryOp .USub (.Constant (.int 1) k p1) p2)) (tPart (tUn (rU fun i => .int (-i)) (tC (.int 1)))) := po_some (pe_un un_neg pe_int)
  refine wpAny_Slice (thn (po_none.run pins s1 σ H1 (fun o G => o = none ∧ G = H1) I1 ⟨rfl, rfl⟩) fun vl s2 ⟨l, G2, I2, pl, el, eG⟩ => ?_)
  subst el eG
  refine thn (po_none.run pins s2 σ G2 (fun o G => o = none ∧ G = G2) I2 ⟨rfl, rfl⟩) fun vu s3 ⟨u, G3, I3, pu, eu, eG⟩ => ?_
  subst eu eG
  refine thn (step.run pins s3 σ G3 (fun o G => o = some (-1) ∧ G = G3) I3 ⟨1, rfl, -1, rfl, rfl, rfl⟩) fun vs s4 ⟨o, G4, I4, ps, eo, eG⟩ => ?_
  subst eo eG
  have I5 : Inv X pins σ G4 { s4 with heap := s4.heap.push { cls := .type "slice", data := .fields #[vl, vu, vs] } } := I4.kept (t' := s4.toks) fun b ob q => Heap.get?_push_of_some _ q
  obtain ⟨its, r, ht, hz⟩ := I5.tuple hx
  have len := r.length
  show wpAny (model X.prog X.w) X.A (subscriptTail e (.Slice none none (some (.UnaryOp .USub (.Constant (.int 1) k p1) p2)) p3) (.ref a) (.ref s4.heap.objs.size)) (EP X pins σ Q) X.xe { s4 with heap := s4.heap.push { cls := .type "slice", data := .fields #[vl, vu, vs] } }
  refine tail_any (ops := [.ref a, .ref s4.heap.objs.size]) ht.typeIs slot_tuple_getitem.lookup ?_ (by with_unfolding_all rfl)
  refine tuple_back ht (Heap.IsSliceOf.new _ vl vu vs) pl pu ps ?_ (by rw [List.size_toArray]; omega)
  refine ⟨.ref _, _, I5.laid (t' := s4.toks) (o := .tup xs.reverse) (fun b ob q => Heap.get?_push_of_some _ q) (Nat.le_refl _) ?_, rfl, q _ (I5.hok.fresh (Nat.le_refl _))⟩
  exact ⟨by rw [List.length_reverse]; exact hz, its.reverse, r.reverse, _, Heap.get?_push_size _ rfl, rfl, 0, rfl⟩
end
end DRv
namespace DR
open PySem PySem.Spec PyProof.Rows L2
/-! ### values that may be shown and told of -/
def tupLen : PyData → Nat
  | .tuple es => es.length
  | _ => 0
/-- data that is shown in n signs at most, k deep at most -/
structure Fits (n k : Nat) (d : PyData) : Prop where
  sh : d.showable = true
  nd : d.hasDict = false
  dp : d.depth ≤ k
  ln : d.shown.length ≤ n
theorem Fits.up {n k n' k' : Nat} {d : PyData} (h : Fits n k d) (a : n ≤ n') (b : k ≤ k') : Fits n' k' d := ⟨h.sh, h.nd, Nat.le_trans h.dp b, Nat.le_trans h.ln a⟩
theorem fits_int {i : Int} (h : i.natAbs < 10 ^ 100) : Fits 101 0 (.int i) := ⟨(int_shows h).1, rfl, Nat.le_refl _, (int_shows h).2⟩
theorem fits_pd {g : Pol} (h : Sm g) : Fits (211 * g.length + 3) 2 (pd g) := ⟨(pd_shows h).1, (pd_shows h).2.1, (pd_shows h).2.2.1, (pd_shows h).2.2.2⟩
theorem fits_list {g : Pol} (h : Sm g) : Fits (211 * g.length + 3) 2 (.list (g.map pr)) := by
  obtain ⟨a1, a2, a3, a4, a5⟩ := prs_shows g h.abs
  refine ⟨a1, a2, ?_, ?_⟩
  · show PyData.depthAll (g.map pr) + 1 ≤ 2
    omega
  · show (listText (PyData.shownAll (g.map pr))).length ≤ _
    have := listText_len_le (PyData.shownAll (g.map pr))
    rw [a5] at this
    omega
theorem fits_1 {n k : Nat} {d : PyData} (h : Fits n k d) : Fits (n + 5) (k + 1) (.tuple [d]) := by
  obtain ⟨a, b, c, e⟩ := h
  refine ⟨?_, ?_, ?_, ?_⟩
  · show (d.showable && true) = true
    rw [a]
    rfl
  · show (d.hasDict || false) = false
    rw [b]
    rfl
  · show max d.depth 0 + 1 ≤ k + 1
    omega
  · show (tupleText [d.shown]).length ≤ _
    have := tupleText_len_le [d.shown]
    simp only [List.map_cons, List.map_nil, List.sum_cons, List.sum_nil, List.length_cons, List.length_nil] at this
    omega
theorem fits_2 {n k n' k' : Nat} {d d' : PyData} (h : Fits n k d) (h' : Fits n' k' d') : Fits (n + n' + 7) (max k k' + 1) (.tuple [d, d']) := by
  obtain ⟨a, b, c, e⟩ := h
  obtain ⟨a', b', c', e'⟩ := h'
  refine ⟨?_, ?_, ?_, ?_⟩
  · show (d.showable && (d'.showable && true)) = true
    rw [a, a']
    rfl
  · show (d.hasDict || (d'.hasDict || false)) = false
    rw [b, b']
    rfl
  · show max d.depth (max d'.depth 0) + 1 ≤ max k k' + 1
    omega
  · show (tupleText [d.shown, d'.shown]).length ≤ _
    have := tupleText_len_le [d.shown, d'.shown]
    simp only [List.map_cons, List.map_nil, List.sum_cons, List.sum_nil, List.length_cons, List.length_nil] at this
    omega
theorem fits_l2 {n k n' k' : Nat} {d d' : PyData} (h : Fits n k d) (h' : Fits n' k' d') : Fits (n + n' + 7) (max k k' + 1) (.list [d, d']) := by
  obtain ⟨a, b, c, e⟩ := h
  obtain ⟨a', b', c', e'⟩ := h'
  refine ⟨?_, ?_, ?_, ?_⟩
  · show (d.showable && (d'.showable && true)) = true
    rw [a, a']
    rfl
  · show (d.hasDict || (d'.hasDict || false)) = false
    rw [b, b']
    rfl
  · show max d.depth (max d'.depth 0) + 1 ≤ max k k' + 1
    omega
  · show (listText [d.shown, d'.shown]).length ≤ _
    have := listText_len_le [d.shown, d'.shown]
    simp only [List.map_cons, List.map_nil, List.sum_cons, List.sum_nil, List.length_cons, List.length_nil] at this
    omega
theorem fits_3 {n k n' k' n2 k2 : Nat} {d d' d2 : PyData} (h : Fits n k d) (h' : Fits n' k' d') (h2 : Fits n2 k2 d2) : Fits (n + n' + n2 + 9) (max k (max k' k2) + 1) (.tuple [d, d', d2]) := by
  obtain ⟨a, b, c, e⟩ := h
  obtain ⟨a', b', c', e'⟩ := h'
  obtain ⟨a2, b2, c2, e2⟩ := h2
  refine ⟨?_, ?_, ?_, ?_⟩
  · show (d.showable && (d'.showable && (d2.showable && true))) = true
    rw [a, a', a2]
    rfl
  · show (d.hasDict || (d'.hasDict || (d2.hasDict || false))) = false
    rw [b, b', b2]
    rfl
  · show max d.depth (max d'.depth (max d2.depth 0)) + 1 ≤ _
    omega
  · show (tupleText [d.shown, d'.shown, d2.shown]).length ≤ _
    have := tupleText_len_le [d.shown, d'.shown, d2.shown]
    simp only [List.map_cons, List.map_nil, List.sum_cons, List.sum_nil, List.length_cons, List.length_nil] at this
    omega
/-- what repr and is_effect ask -/
structure Shw (d : PyData) : Prop where
  sh : d.showable = true
  nd : d.hasDict = true → d = .dict []
  dp : d.depth ≤ 64
  ln : d.shown.length ≤ sizeLine
  tl : tupLen d ≤ 1000000
  it : ∀ ds, d = .tuple ds → ∀ x ∈ ds, tupLen x ≤ 1000000
theorem Fits.shw {n k : Nat} {d : PyData} (h : Fits n k d) (hn : n ≤ 1000000) (hk : k ≤ 64) (tl : tupLen d ≤ 1000000) (it : ∀ ds, d = .tuple ds → ∀ x ∈ ds, tupLen x ≤ 1000000) : Shw d :=
  ⟨h.sh, (fun z => by rw [h.nd] at z; cases z), Nat.le_trans h.dp hk, sl_of (Nat.le_trans h.ln hn), tl, it⟩
theorem it_2 {a b : PyData} (h1 : tupLen a ≤ 1000000) (h2 : tupLen b ≤ 1000000) : ∀ ds, PyData.tuple [a, b] = .tuple ds → ∀ x ∈ ds, tupLen x ≤ 1000000 := fun ds e x hx => by
  cases PyData.tuple.inj e
  rcases List.mem_cons.mp hx with z | hx
  · rw [z]; exact h1
  rcases List.mem_cons.mp hx with z | hx
  · rw [z]; exact h2
  · exact absurd hx List.not_mem_nil
def Good (K : PySem.W.Frag) (H : Hp) (v : V) : Prop := ∃ d, DpX K H v d ∧ Shw d
section
variable {K : PySem.W.Frag} {H H' : Hp} {v : V} {l : List V}
theorem Good.same (e : Same H H') (h : Good K H v) : Good K H' v := h.elim fun d z => ⟨d, DpX.same e z.1, z.2⟩
theorem good_nil : ∀ w ∈ ([] : List V), Good K H w := fun w h => absurd h List.not_mem_nil
theorem good_cons (h : Good K H v) (t : ∀ w ∈ l, Good K H w) : ∀ w ∈ v :: l, Good K H w := fun w hw => (List.mem_cons.mp hw).elim (fun e => e ▸ h) (t w)
theorem goods_same (e : Same H H') (h : ∀ w ∈ l, Good K H w) : ∀ w ∈ l, Good K H' w := fun w hw => Good.same e (h w hw)
theorem kp_l {p c : Addr} {n : Nat} {a : Addr} {xs : List V} (pen : PenAt H p c n) (k : Kp p H H') (h : SqL K H a xs) : SqL K H' a xs := by
  obtain ⟨kvs, hp⟩ := pen.dict
  rcases h with (h | ⟨o, h⟩) | h
  · exact .inl (.inl (k _ _ (ne_of h hp (by intro z; cases z)) h))
  · exact .inl (.inr ⟨o, k _ _ (ne_of h hp (by intro z; cases z)) h⟩)
  · exact .inr h
mutual
theorem Dp.kp {p c : Addr} {n : Nat} (pen : PenAt H p c n) (k : Kp p H H') : ∀ {v : V} {d : PyData}, Dp K H v d → Dp K H' v d
  | _, _, .non => .non
  | _, _, .bl b => .bl b
  | _, _, .int i => .int i
  | _, _, .str x => .str x
  | _, _, .lst hs ha => .lst (kp_l pen k hs) (DpAll.kp pen k ha)
  | _, _, .tup hs ha => .tup (tp_t (pen.tp k) hs) (DpAll.kp pen k ha)
theorem DpAll.kp {p c : Addr} {n : Nat} (pen : PenAt H p c n) (k : Kp p H H') : ∀ {vs : List V} {ds : List PyData}, DpAll K H vs ds → DpAll K H' vs ds
  | _, _, .nil => .nil
  | _, _, .cons h t => .cons (Dp.kp pen k h) (DpAll.kp pen k t)
end
theorem Good.kp {p c : Addr} {n : Nat} (pen : PenAt H p c n) (k : Kp p H H') (h : Good K H v) : Good K H' v := by
  obtain ⟨d, hd | ⟨a, e1, e2, e3⟩, s⟩ := h
  · exact ⟨d, .inl (Dp.kp pen k hd), s⟩
  · obtain ⟨ns, u, l, hp, _⟩ := pen.ex
    refine ⟨d, .inr ⟨a, e1, k _ _ (ne_of e2 hp (fun z => ?_)) e2, e3⟩, s⟩
    injection z with z
    cases z
end
def sp__law_odd_value (K : PySem.W.Frag) : Sp := fun vs H Q _ => ∃ (p c : Addr) (n : Nat), vs = [.ref p] ∧ PenAt H p c n ∧ n < 2 ^ 38 ∧ ∀ v H', Kp p H H' → PenAt H' p c (n + 1) → Good K H' v → Q v H'
/-- order of any effect -/
def ordV (p : Int) (f : Pol) (m : Int) : V := if m = 0 then .int (if f = [] then 1 else p) else .non
def sp_orderG (K : PySem.W.Frag) : Sp := fun vs H Q _ => ∃ (p : Int) (v : V) (f : Pol) (m : Int), vs = [.int p, v] ∧ TEff K H v f m ∧ Q (ordV p f m) H
/-- is_effect as the law tells it, term by term -/
def chk (p : Int) : Option Int → List PyData → Bool
  | _, [] => true
  | last, d :: r => isTerm p d && ((match last with | none => true | some l => decide (l < expo d)) && chk p (some (expo d)) r)
theorem chk_some (p : Int) : ∀ (r : List PyData) (d : PyData), chk p (some (expo d)) r = (r.all (isTerm p) && ascD (d :: r))
  | [], d => rfl
  | x :: r, d => by
    show (isTerm p x && (decide (expo d < expo x) && chk p (some (expo x)) r)) = ((isTerm p x && r.all (isTerm p)) && (decide (expo d < expo x) && ascD (x :: r)))
    rw [chk_some p r x]
    cases isTerm p x <;> cases decide (expo d < expo x) <;> cases r.all (isTerm p) <;> cases ascD (x :: r) <;> rfl
theorem chk_none (p : Int) (ds : List PyData) : chk p none ds = isPoly p (.tuple ds) := by
  cases ds with
  | nil => rfl
  | cons d r =>
    show (isTerm p d && (true && chk p (some (expo d)) r)) = ((isTerm p d && r.all (isTerm p)) && ascD (d :: r))
    rw [chk_some]
    cases isTerm p d <;> cases r.all (isTerm p) <;> cases ascD (d :: r) <;> rfl
end DR
namespace DR
open PySem PySem.Spec PyProof.Rows L2
/-! ### values laid out by hand -/
def shwB (d : PyData) : Bool := d.showable && (!d.hasDict || (match d with | .dict [] => true | _ => false)) && decide (d.depth ≤ 64) && decide (d.shown.length ≤ 1000000) && decide (tupLen d ≤ 1000000) && (match d with | .tuple ds => ds.all (fun x => decide (tupLen x ≤ 1000000)) | _ => true)
theorem shw_of {d : PyData} (h : shwB d = true) : Shw d := by
  simp only [shwB, Bool.and_eq_true] at h
  obtain ⟨⟨⟨⟨⟨h1, h2⟩, h3⟩, h4⟩, h5⟩, h6⟩ := h
  refine ⟨h1, fun z => ?_, of_decide_eq_true h3, sl_of (of_decide_eq_true h4), of_decide_eq_true h5, ?_⟩
  · rw [z] at h2
    cases d with
    | dict l =>
      cases l with
      | nil => rfl
      | cons _ _ => cases h2
    | _ => cases h2
  · rintro ds rfl x hx
    exact of_decide_eq_true (List.all_eq_true.mp h6 x hx)
structure Nice (n k : Nat) (d : PyData) : Prop where
  f : Fits n k d
  tl : tupLen d ≤ 1000000
  it : ∀ ds, d = .tuple ds → ∀ x ∈ ds, tupLen x ≤ 1000000
theorem Nice.up {n k n' k' : Nat} {d : PyData} (h : Nice n k d) (a : n ≤ n') (b : k ≤ k') : Nice n' k' d := ⟨h.f.up a b, h.tl, h.it⟩
theorem nice_int {i : Int} (h : i.natAbs < 10 ^ 100) : Nice 101 0 (.int i) := ⟨fits_int h, Nat.zero_le _, fun _ e => by cases e⟩
theorem nice_of {n k : Nat} {d : PyData} (a : d.showable = true) (b : d.hasDict = false) (c : d.depth ≤ k) (e : d.shown.length ≤ n) (t : tupLen d ≤ 1000000) (i : ∀ ds, d = .tuple ds → ∀ x ∈ ds, tupLen x ≤ 1000000) : Nice n k d := ⟨⟨a, b, c, e⟩, t, i⟩
theorem nice_pd {g : Pol} (h : Sm g) (hl : g.length ≤ 101) : Nice 22000 2 (pd g) := ⟨(fits_pd h).up (by omega) (Nat.le_refl _), by
  show (g.map pr).length ≤ _
  rw [List.length_map]
  omega, fun ds e x hx => by
  cases PyData.tuple.inj e
  obtain ⟨t, _, rfl⟩ := List.mem_map.mp hx
  show 2 ≤ 1000000
  decide⟩
theorem nice_lpd {g : Pol} (h : Sm g) (hl : g.length ≤ 101) : Nice 22000 2 (.list (g.map pr)) := ⟨(fits_list h).up (by omega) (Nat.le_refl _), Nat.zero_le _, fun ds e => by cases e⟩
theorem nice_1 {n k : Nat} {d : PyData} (h : Nice n k d) : Nice (n + 5) (k + 1) (.tuple [d]) := ⟨fits_1 h.f, (show 1 ≤ 1000000 by decide), fun ds e x hx => by
  cases PyData.tuple.inj e
  rcases List.mem_cons.mp hx with z | hx
  · rw [z]; exact h.tl
  · exact absurd hx List.not_mem_nil⟩
theorem nice_2 {n k n' k' : Nat} {d d' : PyData} (h : Nice n k d) (h' : Nice n' k' d') : Nice (n + n' + 7) (max k k' + 1) (.tuple [d, d']) := ⟨fits_2 h.f h'.f, (show 2 ≤ 1000000 by decide), it_2 h.tl h'.tl⟩
theorem nice_l2 {n k n' k' : Nat} {d d' : PyData} (h : Nice n k d) (h' : Nice n' k' d') : Nice (n + n' + 7) (max k k' + 1) (.list [d, d']) := ⟨fits_l2 h.f h'.f, Nat.zero_le _, fun ds e => by cases e⟩
theorem nice_3 {n k n' k' n2 k2 : Nat} {d d' d2 : PyData} (h : Nice n k d) (h' : Nice n' k' d') (h2 : Nice n2 k2 d2) : Nice (n + n' + n2 + 9) (max k (max k' k2) + 1) (.tuple [d, d', d2]) := ⟨fits_3 h.f h'.f h2.f, (show 3 ≤ 1000000 by decide), fun ds e x hx => by
  cases PyData.tuple.inj e
  rcases List.mem_cons.mp hx with z | hx
  · rw [z]; exact h.tl
  rcases List.mem_cons.mp hx with z | hx
  · rw [z]; exact h'.tl
  rcases List.mem_cons.mp hx with z | hx
  · rw [z]; exact h2.tl
  · exact absurd hx List.not_mem_nil⟩
def FA (K : PySem.W.Frag) (H : Hp) (v : V) : Prop := ∃ d, Dp K H v d ∧ Nice 25000 3 d
def FB (K : PySem.W.Frag) (H : Hp) (v : V) : Prop := ∃ d, Dp K H v d ∧ Nice 100000 4 d
section
variable {K : PySem.W.Frag} {H : Hp} {b : Addr}
theorem dn_tup (nb : H b = none) (xs : List V) (ds : List PyData) (hd : DpAll K (upd H b (.tup xs)) xs ds) : Dp K (upd H b (.tup xs)) (.ref b) (.tuple ds) := .tup (SqT.of upd_same) hd
theorem dn_lst (nb : H b = none) (xs : List V) (ds : List PyData) (hd : DpAll K (upd H b (.lst xs)) xs ds) : Dp K (upd H b (.lst xs)) (.ref b) (.list ds) := .lst (SqL.of upd_same) hd
theorem dn_dct (nb : H b = none) : DpX K (upd H b (.dK [])) (.ref b) (.dict []) := .inr ⟨b, rfl, upd_same, rfl⟩
theorem same_top (nb : H b = none) (o : HO) : Same (upd H b o) (upd H b o) := Same.refl _

variable {H' : Hp} {v w x : V} {Q : VK}
theorem FA.same (e : Same H H') (h : FA K H v) : FA K H' v := h.elim fun d z => ⟨d, Dp.same e z.1, z.2⟩
theorem FB.same (e : Same H H') (h : FB K H v) : FB K H' v := h.elim fun d z => ⟨d, Dp.same e z.1, z.2⟩
theorem FA.kp {p c : Addr} {n : Nat} (pen : PenAt H p c n) (k : Kp p H H') (h : FA K H v) : FA K H' v := h.elim fun d z => ⟨d, Dp.kp pen k z.1, z.2⟩
theorem FB.kp {p c : Addr} {n : Nat} (pen : PenAt H p c n) (k : Kp p H H') (h : FB K H v) : FB K H' v := h.elim fun d z => ⟨d, Dp.kp pen k z.1, z.2⟩
theorem FA.fb (h : FA K H v) : FB K H v := h.elim fun d z => ⟨d, z.1, z.2.up (by decide) (by decide)⟩
theorem FB.good (h : FB K H v) : Good K H v := h.elim fun d z => ⟨d, .inl z.1, z.2.f.shw (by decide) (by decide) z.2.tl z.2.it⟩
theorem fa_int {i : Int} (h : i.natAbs < 10 ^ 100) : FA K H (.int i) := ⟨_, .int i, (nice_int h).up (by decide) (by decide)⟩
theorem fb_t1 (nb : H b = none) (h : FA K H v) : FB K (upd H b (.tup [v])) (.ref b) := h.elim fun d z => ⟨_, dn_tup nb _ _ (.cons (Dp.same (same_new nb) z.1) .nil), (nice_1 z.2).up (by decide) (by decide)⟩
theorem fb_t2 (nb : H b = none) (h : FA K H v) (h' : FA K H w) : FB K (upd H b (.tup [v, w])) (.ref b) := h.elim fun d z => h'.elim fun d' z' => ⟨_, dn_tup nb _ _ (.cons (Dp.same (same_new nb) z.1) (.cons (Dp.same (same_new nb) z'.1) .nil)), (nice_2 z.2 z'.2).up (by decide) (by decide)⟩
theorem fb_l2 (nb : H b = none) (h : FA K H v) (h' : FA K H w) : FB K (upd H b (.lst [v, w])) (.ref b) := h.elim fun d z => h'.elim fun d' z' => ⟨_, dn_lst nb _ _ (.cons (Dp.same (same_new nb) z.1) (.cons (Dp.same (same_new nb) z'.1) .nil)), (nice_l2 z.2 z'.2).up (by decide) (by decide)⟩
theorem fb_t3 (nb : H b = none) (h : FA K H v) (h' : FA K H w) (h2 : FA K H x) : FB K (upd H b (.tup [v, w, x])) (.ref b) := h.elim fun d z => h'.elim fun d' z' => h2.elim fun d2 z2 => ⟨_, dn_tup nb _ _ (.cons (Dp.same (same_new nb) z.1) (.cons (Dp.same (same_new nb) z'.1) (.cons (Dp.same (same_new nb) z2.1) .nil))), (nice_3 z.2 z'.2 z2.2).up (by decide) (by decide)⟩
theorem DpAll.append : ∀ {xs ys : List V} {ds es : List PyData}, DpAll K H xs ds → DpAll K H ys es → DpAll K H (xs ++ ys) (ds ++ es)
  | _, _, _, _, .nil, t => t
  | _, _, _, _, .cons h r, t => .cons h (DpAll.append r t)
theorem DpAll.rev : ∀ {xs : List V} {ds : List PyData}, DpAll K H xs ds → DpAll K H xs.reverse ds.reverse
  | _, _, .nil => .nil
  | _, _, .cons h r => by
    rw [List.reverse_cons, List.reverse_cons]
    exact DpAll.append (DpAll.rev r) (.cons h .nil)
theorem Sm.rev {g : Pol} (h : Sm g) : Sm g.reverse := ⟨by rw [List.length_reverse]; exact h.len, fun t ht => h.abs t (List.mem_reverse.mp ht)⟩
theorem Sm.snoc {g : Pol} (h : Sm g) (hl : g.length ≤ 100) : Sm (g ++ [(0, 1)]) := ⟨by rw [List.length_append]; show g.length + 1 ≤ _; omega, fun t ht => by
  rcases List.mem_append.mp ht with z | z
  · exact h.abs t z
  · cases List.mem_singleton.mp z
    decide⟩
/-- a heap without the lists that another one holds -/
def er (H0 H : Hp) : Hp := fun b => match H0 b with | some (.lst _) => none | _ => H b
theorem er_at {H0 : Hp} {o : HO} (h : er H0 H b = some o) : H b = some o ∧ ∀ xs, H0 b ≠ some (.lst xs) := by
  unfold er at h
  split at h
  · cases h
  · next h2 => exact ⟨h, fun xs e => h2 xs e⟩
theorem er_of {H0 : Hp} {o : HO} (h : H b = some o) (n : ∀ xs, H0 b ≠ some (.lst xs)) : er H0 H b = some o := by
  unfold er
  split
  · next xs e => exact absurd e (n xs)
  · exact h
theorem er_sub (H0 H : Hp) : Same (er H0 H) H := fun b o e => (er_at e).1
theorem er_same {H0 : Hp} (s : Same H H') : Same (er H0 H) (er H0 H') := fun b o e => er_of (s _ _ (er_at e).1) (er_at e).2
theorem er_kp {H0 : Hp} {p : Addr} (k : Kp p H H') : Kp p (er H0 H) (er H0 H') := fun b o nb e => er_of (k _ _ nb (er_at e).1) (er_at e).2
/-- lists stay -/
def Al (H0 H : Hp) : Prop := ∀ b xs, H0 b = some (.lst xs) → H b ≠ none
theorem Al.refl (H : Hp) : Al H H := fun b xs e z => by rw [e] at z; cases z
theorem Al.same {H0 : Hp} (h : Al H0 H) (s : Same H H') : Al H0 H' := fun b xs e z => by
  cases hb : H b with
  | none => exact h b xs e hb
  | some o => rw [s _ _ hb] at z; cases z
theorem Al.kp {H0 : Hp} {p c : Addr} {n : Nat} (h : Al H0 H) (k : Kp p H H') (pen : PenAt H' p c n) : Al H0 H' := fun b xs e z => by
  by_cases hp : b = p
  · subst hp
    obtain ⟨kvs, d⟩ := pen.dict
    rw [z] at d
    cases d
  · cases hb : H b with
    | none => exact h b xs e hb
    | some o => rw [k _ _ hp hb] at z; cases z
theorem er_new {H0 : Hp} {o : HO} (s : Al H0 H) (nb : H b = none) : Same (upd (er H0 H) b o) (er H0 (upd H b o)) := fun a u e => by
  by_cases h : a = b
  · subst h
    rw [upd_same] at e
    exact er_of (by rw [upd_same]; exact e) fun xs z => s _ _ z nb
  · rw [upd_ne h] at e
    refine er_of ?_ (er_at e).2
    rw [upd_ne h]
    exact (er_at e).1
theorem er_none {H0 : Hp} (nb : H b = none) : er H0 H b = none := by
  unfold er
  split
  · rfl
  · exact nb
theorem er_tp (H : Hp) : Tp H (er H H) := ⟨fun b xs e => er_of e fun ys z => (by rw [e] at z; cases z), fun b o u e => er_of e fun ys z => (by rw [e] at z; cases z)⟩
theorem cat_pol {a c : Addr} {xs : List V} {e : V} (ha : SqT K H a xs) (hb : SqT K H b [e]) (hl : xs.length ≤ 1000) (k0 : xs = [] → Q (.ref b) H) (k : ∀ p, H p = none → Q (.ref p) (upd H p (.tup (xs ++ [e])))) : rCatA K (.ref a) (.ref b) H Q :=
  ⟨a, b, xs, _, rfl, rfl, ha, hb, sl_of (show xs.length + 1 ≤ 1000000 by omega), k0, fun _ z => (by cases z), fun _ _ p np => k p np⟩
theorem tp_kp {p : Addr} {kvs : List (Key × V)} (hp : H p = some (.dK kvs)) (k : Kp p H H') : Tp H H' := ⟨fun b xs e => k _ _ (ne_of e hp (by intro z; cases z)) e, fun b o u e => k _ _ (ne_of e hp (by intro z; cases z)) e⟩
theorem kpd_l {p : Addr} {kvs : List (Key × V)} {a : Addr} {xs : List V} (hp : H p = some (.dK kvs)) (k : Kp p H H') (h : SqL K H a xs) : SqL K H' a xs := by
  rcases h with (h | ⟨o, h⟩) | h
  · exact .inl (.inl (k _ _ (ne_of h hp (by intro z; cases z)) h))
  · exact .inl (.inr ⟨o, k _ _ (ne_of h hp (by intro z; cases z)) h⟩)
  · exact .inr h
mutual
theorem Dp.kpd {p : Addr} {kvs : List (Key × V)} (hp : H p = some (.dK kvs)) (k : Kp p H H') : ∀ {v : V} {d : PyData}, Dp K H v d → Dp K H' v d
  | _, _, .non => .non
  | _, _, .bl b => .bl b
  | _, _, .int i => .int i
  | _, _, .str x => .str x
  | _, _, .lst hs ha => .lst (kpd_l hp k hs) (DpAll.kpd hp k ha)
  | _, _, .tup hs ha => .tup (tp_t (tp_kp hp k) hs) (DpAll.kpd hp k ha)
theorem DpAll.kpd {p : Addr} {kvs : List (Key × V)} (hp : H p = some (.dK kvs)) (k : Kp p H H') : ∀ {vs : List V} {ds : List PyData}, DpAll K H vs ds → DpAll K H' vs ds
  | _, _, .nil => .nil
  | _, _, .cons h t => .cons (Dp.kpd hp k h) (DpAll.kpd hp k t)
end
theorem FA.kpd {H0 : Hp} {p c c' : Addr} {n n' : Nat} (pen0 : PenAt H0 p c n) (pen : PenAt H p c' n') (k : Kp p H H') (h : FA K (er H0 H) v) : FA K (er H0 H') v := h.elim fun d z => by
  obtain ⟨kvs, hp⟩ := pen.dict
  obtain ⟨kvs0, hp0⟩ := pen0.dict
  exact ⟨d, Dp.kpd (er_of hp fun xs e => by rw [hp0] at e; cases e) (er_kp k) z.1, z.2⟩
theorem FB.kpd {H0 : Hp} {p c c' : Addr} {n n' : Nat} (pen0 : PenAt H0 p c n) (pen : PenAt H p c' n') (k : Kp p H H') (h : FB K (er H0 H) v) : FB K (er H0 H') v := h.elim fun d z => by
  obtain ⟨kvs, hp⟩ := pen.dict
  obtain ⟨kvs0, hp0⟩ := pen0.dict
  exact ⟨d, Dp.kpd (er_of hp fun xs e => by rw [hp0] at e; cases e) (er_kp k) z.1, z.2⟩
theorem all_nil {P : V → Prop} : ∀ w ∈ ([] : List V), P w := fun w h => absurd h List.not_mem_nil
theorem all_cons {P : V → Prop} {l : List V} (h : P v) (t : ∀ w ∈ l, P w) : ∀ w ∈ v :: l, P w := fun w hw => (List.mem_cons.mp hw).elim (fun e => e ▸ h) (t w)
theorem all_app {P : V → Prop} {l m : List V} (h : ∀ w ∈ l, P w) (t : ∀ w ∈ m, P w) : ∀ w ∈ l ++ m, P w := fun w hw => (List.mem_append.mp hw).elim (h w) (t w)
theorem cat_polG {H0 : Hp} {a : Addr} {xs : List V} {e : V} (ha : SqT K H a xs) (hb : SqT K H b [e]) (hl : xs.length ≤ 1000) (f0 : FA K (er H0 H) (.ref b)) (f : ∀ p, H p = none → FA K (er H0 (upd H p (.tup (xs ++ [e])))) (.ref p)) (k : ∀ v H', Same H H' → FA K (er H0 H') v → Q v H') : rCatA K (.ref a) (.ref b) H Q :=
  cat_pol (c := b) ha hb hl (fun _ => k _ _ (Same.refl H) f0) fun p np => k _ _ (same_new np) (f p np)
theorem lcTerm {H0 : Hp} {a : Addr} {xs : List V} {σ : L2.St} {vs : List Nat} {n i : Nat} {te : TE} (m : Int) (hm : m.natAbs < 10 ^ 100) (hv : σ[n]? = some (some (.ref a))) (hs : H a = some (.lst xs)) (hl : xs.length ≤ 1000) (al : Al H0 H) (hw : ∀ x, wipe ((wipe σ vs).set i (some x)) vs = wipe σ vs)
    (he : ∀ x H2 (R : VK), (∀ b, H2 b = none → R (.ref b) (upd H2 b (.tup [x, .int m]))) → te ((wipe σ vs).set i (some x)) H2 R) (hF : ∀ x ∈ xs, FA K (er H0 H) x)
    (k : ∀ D ys H2, Same H H2 → H2 D = some (.lst ys) → ys.length = xs.length → (∀ y ∈ ys, FB K (er H0 H2) y) → Q (.ref D) H2) : tLc (iList K (tVar n)) (gName i) tYes te vs σ H Q := by
  refine ⟨_, hv, a, rfl, ⟨_, SqL.of hs⟩, fun D nD => lc_list (K := K) (a := a) (xs := xs) (fun m' H2 => ∃ acc, H2 D = some (.lst acc) ∧ acc.length = m' ∧ Same H H2 ∧ ∀ y ∈ acc, ∃ b x, y = V.ref b ∧ H2 b = some (.tup [x, .int m]) ∧ H b = none ∧ x ∈ xs) ⟨[], upd_same, rfl, same_new nD, fun y h => absurd h List.not_mem_nil⟩ (fun m' H2 _ ⟨acc, h1, h2, s2, h3⟩ => SqL.of (s2 _ _ hs)) ?_ ?_⟩
  · rintro i' x H2 hi ⟨acc, hD, hlen, s2, hA⟩
    refine ⟨hw _, ?_⟩
    dsimp only [tYes]
    rw [if_pos rfl]
    have hi' : i' < xs.length := (List.getElem?_eq_some_iff.mp hi).1
    refine he x H2 _ fun b nb => ?_
    have nbD : D ≠ b := fun z => by rw [← z, hD] at nb; cases nb
    refine ⟨acc, by rw [upd_ne nbD]; exact hD, sl_lt (by omega), acc ++ [.ref b], upd_same, by rw [List.length_append, hlen]; rfl, same_mut (s2.trans (same_new nb)) nD, fun y hy => ?_⟩
    rcases List.mem_append.mp hy with h | h
    · obtain ⟨b', x', e, h1, h2, h3⟩ := hA y h
      refine ⟨b', x', e, ?_, h2, h3⟩
      rw [upd_ne (ne_of h1 hD (by intro z; cases z)), upd_ne (fun z => by rw [z, nb] at h1; cases h1)]
      exact h1
    · have e : y = .ref b := by simpa using h
      refine ⟨b, x, e, ?_, ?_, List.mem_of_getElem? hi⟩
      · rw [upd_ne nbD.symm, upd_same]
      · cases hb : H b with
        | none => rfl
        | some o => rw [s2 _ _ hb] at nb; cases nb
  · rintro H2 ⟨acc, hD, hlen, s2, hA⟩
    refine k D acc H2 s2 hD hlen fun y hy => ?_
    obtain ⟨b, x, rfl, h1, h2, h3⟩ := hA y hy
    obtain ⟨d, hd, hn⟩ := hF x h3
    exact ⟨_, .tup (SqT.of (er_of h1 fun ys z => al _ _ z h2)) (.cons (Dp.same (er_same s2) hd) (.cons (.int m) .nil)), (nice_2 hn (nice_int hm)).up (by decide) (by decide)⟩
end
def sp__law_changed9 (K : PySem.W.Frag) : Sp := fun vs H Q _ => ∃ (p c : Addr) (q : Int) (e : V) (g : Pol) (m : Int) (n : Nat), vs = [.ref p, .int q, e] ∧ 2 ≤ q ∧ q ≤ 97 ∧ TEff K H e g m ∧ Sm g ∧ g.length ≤ 100 ∧ m.natAbs < 10 ^ 90 ∧ PenAt H p c n ∧ n < 2 ^ 38 ∧ ∀ v H', Kp p H H' → PenAt H' p c (n + 2) → Good K (er H H') v → Q v H'
theorem op_mulOk {X : Cx} : OpR X (binaryOp .Mult) (rI IntMulOk fun i j => .int (i * j)) := opI fun _ _ _ _ _ _ _ hc q => mul_int q hc
def er1 (D : Addr) (H : Hp) : Hp := fun b => if b = D then none else H b
theorem er1_at {D b : Addr} {H : Hp} {o : HO} (h : er1 D H b = some o) : b ≠ D ∧ H b = some o := by
  unfold er1 at h
  split at h
  · cases h
  · next z => exact ⟨z, h⟩
theorem er1_of {D b : Addr} {H : Hp} {o : HO} (n : b ≠ D) (h : H b = some o) : er1 D H b = some o := by
  unfold er1
  rw [if_neg n]
  exact h
theorem er1_pen {D p c : Addr} {H : Hp} {n : Nat} (hp : p ≠ D) (hc : c ≠ D) (pen : PenAt H p c n) : PenAt (er1 D H) p c n := by
  obtain ⟨ns, u, l, h1, h2, h3, h4⟩ := pen.ex
  exact ⟨⟨ns, u, l, er1_of hp h1, er1_of hc h2, h3, h4⟩⟩
theorem lcPenG {K : PySem.W.Frag} {p c : Addr} {σ : L2.St} {H : Hp} {vs : List Nat} {i : Nat} {te : TE} {Q : VK} (n : Nat) {z : Int} (hz : z = (n : Int)) (b cost : Nat) (hn : n ≤ 1000)
    (hw : ∀ x, wipe ((wipe σ vs).set i (some x)) vs = wipe σ vs) (pen : PenAt H p c b)
    (he : ∀ (m : Nat), m < n → ∀ H2, Kp p H H2 → PenAt H2 p c (b + cost * m) → ∀ S : VK, (∀ v H3, Kp p H2 H3 → PenAt H3 p c (b + cost * (m + 1)) → Good K (er H2 H3) v → S v H3) → te ((wipe σ vs).set i (some (.int (0 + (m : Int))))) H2 S)
    (k : ∀ D xs H2, xs.length = n → H2 D = some (.lst xs) → (∀ v ∈ xs, Good K H2 v) → Kp p H H2 → PenAt H2 p c (b + cost * n) → Q (.ref D) H2) : tLc (iRng1 (tCons (tC (.int z)) tNil)) (gName i) tYes te vs σ H Q := by
  subst hz
  refine ⟨(n : Int), rfl, by omega, by omega, fun D nD => lc_range (lo := 0) (n := ((n : Int)).toNat) (fun m H2 => ∃ xs, H2 D = some (.lst xs) ∧ xs.length = m ∧ (∀ v ∈ xs, Good K (er1 D H2) v) ∧ Kp p H H2 ∧ PenAt H2 p c (b + cost * m)) ⟨[], upd_same, rfl, fun v h => absurd h List.not_mem_nil, Same.kp (same_new nD), pen.same (same_new nD)⟩ ?_ ?_⟩
  · rintro m H2 hm ⟨xs, hD, hl, hR, kp, pen2⟩
    refine ⟨hw _, ?_⟩
    dsimp only [tYes]
    rw [if_pos rfl]
    refine he m (by omega) H2 kp pen2 _ fun v H3 k3 pen3 hv => ?_
    have npD := pen.np nD
    have ncD := pen.nc nD
    have hD3 : H3 D = some (.lst xs) := k3 _ _ npD hD
    refine ⟨xs, hD3, sl_lt (by omega), xs ++ [v], upd_same, by rw [List.length_append, hl]; rfl, fun w hw' => ?_, fun x o nx ex => ?_, pen3.upd npD ncD⟩
    · rcases List.mem_append.mp hw' with h | h
      · refine Good.kp (er1_pen npD.symm ncD.symm pen2) (fun x o nx ex => ?_) (hR w h)
        obtain ⟨h1, h2⟩ := er1_at ex
        exact er1_of h1 (by rw [upd_ne h1]; exact k3 _ _ nx h2)
      · have e : w = v := by simpa using h
        rw [e]
        refine Good.same (fun x o ex => ?_) hv
        obtain ⟨h1, h2⟩ := er_at ex
        have h3 : x ≠ D := fun z => h2 xs (z ▸ hD)
        exact er1_of h3 (by rw [upd_ne h3]; exact h1)
    · rw [upd_ne (ne_of_none ex nD)]
      exact k3 _ _ nx (kp _ _ nx ex)
  · rintro H2 ⟨xs, hD, hl, hR, kp, pen2⟩
    exact k D xs H2 (by rw [hl]; omega) hD (fun v hv => Good.same (fun x o ex => (er1_at ex).2) (hR v hv)) kp (pen2.mono (by rw [Int.toNat_natCast]; exact Nat.le_refl _))
end DR
namespace DR
open PySem PySem.Spec PyProof.Rows L2
/-! ### a call by keywords alone -/
section
variable {X : Cx} {CX : CXT} {k : Nat} {f : Addr} {fd : FuncData} {ps ks : List Str} {sp : Sp} {E : XK} {x : Str} {p pos : Pos} {kws : List Keyword} {tk : TA} {g : List Value → List Value → List Value} {gV : List V → List V → List V}
/-- the keywords of a call, none of them `**` -/
structure KwsAre (pos : Pos) (kws : List Keyword) (env : Env) (ks : List Str) : Prop where
  named : (backToKw pos (keywordEach kws env)).all (·.1.isSome) = true
  names : (backToKw pos (keywordEach kws env)).filterMap (·.1) = ks
  plain : ((backTo pos (starEach [] env)).any (·.1) || (backToKw pos (keywordEach kws env)).any (·.1.isNone)) = false
theorem pe_callK0 (F : FnOk X.prog X.w X.K X.mg X.base CX k f fd ps sp) (hr : Room k X.A) (hg : Gl X x) (hm : X.mg x = some (.ref f)) (hk : PySem.W.keepIn X.K (.ref f) = true) (hb : KBinds X.K fd ps ks g gV) (hx : Passes CX X E) (hkw : PK X kws tk)
    (said : KwsAre pos kws X.env ks := by exact ⟨rfl, rfl, rfl⟩) (hdb : (x == ("__debug__" : Str)) = false := by decide) :
    PE X (.Call (.Name x p) [] kws pos) (tCallK sp gV E tNil tk) := by
  refine ⟨fun pins now σ H Q I told => wpAny_Call_Name_kw (ld_glob I hg hm (PySem.W.callWith_KW0 (h₀ := X.base) I.ok.mod.kin hk said.named ?_ said.plain) hdb)⟩
  refine thn (hkw.run pos pins now σ H _ I told) fun ws s2 ⟨zs, H2, I2, rz, q2⟩ => ⟨I2.kIn, ?_⟩
  rw [said.names]
  exact run_fnk (us := []) (vs := []) F hr hb hx I2 .nil rz q2
end
/-- two keywords, in the other order -/
def sw2 {α : Type} : List α → List α → List α
  | [], [a, b] => [b, a]
  | _, _ => []
theorem sw2_rel {vs : List V} {us : List Value} {zs : List V} {ws : List Value} (h : Vals vs us) (h2 : Vals zs ws) : Vals (sw2 vs zs) (sw2 us ws) := by
  cases h with
  | nil =>
    cases h2 with
    | nil => exact .nil
    | cons a t =>
      cases t with
      | nil => exact .nil
      | cons b t2 =>
        cases t2 with
        | nil => exact .cons b (.cons a .nil)
        | cons _ _ => exact .nil
  | cons _ _ =>
    cases h2 with
    | nil => exact .nil
    | cons a t => exact .nil
structure CalW (P : Program) (w : World) (K : PySem.W.Frag) (mg : Str → Option Value) (base : Heap) (k : Nat) (x : Str) (k1 k2 : Str) (sp : Sp) : Prop where
  ex : ∃ (f : Addr) (fd : FuncData), FnOk P w K mg base CX0 k f fd [k2, k1] sp ∧ mg x = some (.ref f) ∧ PySem.W.keepIn K (.ref f) = true ∧ KBinds K fd [k2, k1] [k1, k2] sw2 sw2
theorem calw_of {P : Program} {w : World} {K : PySem.W.Frag} {mg : Str → Option Value} {base : Heap} {k : Nat} {x k1 k2 : Str} {st : Stmt} {sp : Sp} (D : Df K mg x st)
    (b : ∀ (kV doc pm : Value) (an : Option Addr) (cdv ct : Value) (u v : Value), bindArgs (PySem.W.fnOf x x (defArgs st) (defBody st) (defScope st) .none kV doc pm an cdv ct) ⟨[], [(k1, u), (k2, v)]⟩ = pure [(k2, v), (k1, u)])
    (ok : ∀ f fd, Fun K x x st f fd → FnOk P w K mg base CX0 k f fd [k2, k1] sp) : CalW P w K mg base k x k1 k2 sp := by
  obtain ⟨f, fd, F, hm, kp⟩ := D.ex
  refine ⟨f, fd, ok f fd F, hm, kp, ⟨fun s us ws _ hl => ?_, sw2_rel⟩⟩
  obtain ⟨_, _, kV, doc, pm, an, cdv, ct, _, rfl, _⟩ := F.ex
  match us, ws, hl with
  | [], [u, v], _ => exact .of_eq (b kV doc pm an cdv ct u v)
theorem pe_cw {X : Cx} {k j : Nat} {x k1 k2 : Str} {sp : Sp} {p pos : Pos} {kws : List Keyword} {tk : TA} (c : CalW X.prog X.w X.K X.mg X.base k x k1 k2 sp) (hr : Room j X.A) (hk : k ≤ j) (hg : Gl X x) (hkw : PK X kws tk)
    (said : KwsAre pos kws X.env [k1, k2] := by exact ⟨rfl, rfl, rfl⟩) (hdb : (x == ("__debug__" : Str)) = false := by decide) :
    PE X (.Call (.Name x p) [] kws pos) (tCallK sp sw2 E0 tNil tk) := by
  obtain ⟨f, fd, F, hm, kp, b⟩ := c.ex
  exact pe_callK0 F (hr.mono hk) hg hm kp b pass0 hkw said hdb
/-! ### least and greatest -/
def loL (x : Int) (r : List Int) : Int := r.foldr min x
def hiL (x : Int) (r : List Int) : Int := r.foldr max x
theorem loL_le (x : Int) : ∀ (r : List Int), loL x r ≤ x ∧ ∀ y ∈ r, loL x r ≤ y
  | [] => ⟨Int.le_refl _, fun y h => absurd h List.not_mem_nil⟩
  | z :: r => by
    obtain ⟨a, b⟩ := loL_le x r
    have e : loL x (z :: r) = min z (loL x r) := rfl
    refine ⟨by omega, fun y hy => ?_⟩
    rcases List.mem_cons.mp hy with q | q
    · rw [q]; omega
    · have := b y q; omega
theorem loL_mem (x : Int) : ∀ (r : List Int), loL x r ∈ x :: r
  | [] => List.mem_cons_self
  | z :: r => by
    have h := loL_mem x r
    have e : loL x (z :: r) = min z (loL x r) := rfl
    by_cases q : z ≤ loL x r
    · rw [e, Int.min_eq_left q]
      exact List.mem_cons_of_mem _ List.mem_cons_self
    · rw [e, Int.min_eq_right (by omega)]
      rcases List.mem_cons.mp h with w | w
      · rw [w]; exact List.mem_cons_self
      · exact List.mem_cons_of_mem _ (List.mem_cons_of_mem _ w)
theorem loL_eq {x m : Int} {r : List Int} (h : m ∈ x :: r) (l : ∀ y ∈ x :: r, m ≤ y) : m = loL x r := by
  have h1 := l _ (loL_mem x r)
  have h2 : loL x r ≤ m := by
    rcases List.mem_cons.mp h with q | q
    · rw [q]; exact (loL_le x r).1
    · exact (loL_le x r).2 m q
  omega
theorem hiL_ge (x : Int) : ∀ (r : List Int), x ≤ hiL x r ∧ ∀ y ∈ r, y ≤ hiL x r
  | [] => ⟨Int.le_refl _, fun y h => absurd h List.not_mem_nil⟩
  | z :: r => by
    obtain ⟨a, b⟩ := hiL_ge x r
    have e : hiL x (z :: r) = max z (hiL x r) := rfl
    refine ⟨by omega, fun y hy => ?_⟩
    rcases List.mem_cons.mp hy with q | q
    · rw [q]; omega
    · have := b y q; omega
theorem hiL_mem (x : Int) : ∀ (r : List Int), hiL x r ∈ x :: r
  | [] => List.mem_cons_self
  | z :: r => by
    have h := hiL_mem x r
    have e : hiL x (z :: r) = max z (hiL x r) := rfl
    by_cases q : hiL x r ≤ z
    · rw [e, Int.max_eq_left q]
      exact List.mem_cons_of_mem _ List.mem_cons_self
    · rw [e, Int.max_eq_right (by omega)]
      rcases List.mem_cons.mp h with w | w
      · rw [w]; exact List.mem_cons_self
      · exact List.mem_cons_of_mem _ (List.mem_cons_of_mem _ w)
theorem hiL_eq {x m : Int} {r : List Int} (h : m ∈ x :: r) (l : ∀ y ∈ x :: r, y ≤ m) : m = hiL x r := by
  have h1 := l _ (hiL_mem x r)
  have h2 : m ≤ hiL x r := by
    rcases List.mem_cons.mp h with q | q
    · rw [q]; exact (hiL_ge x r).1
    · exact (hiL_ge x r).2 m q
  omega
/-! ### the length of an effect -/
def places (f : Pol) (m : Int) : List Int := m :: f.map (·.1)
def lo (f : Pol) (m : Int) : Int := loL 0 (places f m)
def hi (f : Pol) (m : Int) : Int := hiL 0 (places f m)
def ft (p v : Int) : Int := if p - v < v then p - v else v
def absI (m : Int) : Int := if m < 0 then -m else m
def turnsOf (p : Int) (f : Pol) : Int := (f.map fun t => ft p t.2).sum
def lenE (p : Int) (f : Pol) (m : Int) : Int := 2 * (hi f m - lo f m) - absI m + turnsOf p f
def sp_fewest_turns : Sp := fun vs H Q _ => ∃ (p v : Int), vs = [.int p, .int v] ∧ Q (.int (ft p v)) H
def sp_cost : Sp := fun vs H Q _ => ∃ (p v : Int), vs = [.int p, .int v] ∧ 0 < v ∧ v < p ∧ Q (.int (ft p v)) H
def sp_reach (K : PySem.W.Frag) : Sp := fun vs H Q _ => ∃ (v : V) (f : Pol) (m : Int), vs = [v] ∧ TEff K H v f m ∧ f.length ≤ 100000 ∧ ∀ a H', Same H H' → SqT K H' a [.int (lo f m), .int (hi f m)] → Q (.ref a) H'
def sp_length (K : PySem.W.Frag) : Sp := fun vs H Q _ => ∃ (p : Int) (v : V) (f : Pol) (m : Int), vs = [.int p, v] ∧ TEff K H v f m ∧ f.length ≤ 100000 ∧ ∀ H', Same H H' → Q (.int (lenE p f m)) H'
def sp_size (K : PySem.W.Frag) : Sp := fun vs H Q _ => ∃ (p : Int) (v : V) (f : Pol) (m : Int), vs = [.int p, v] ∧ TEff K H v f m ∧ f.length ≤ 100000 ∧ (∀ t ∈ f, 0 < t.2 ∧ t.2 < p) ∧ ∀ H', Same H H' → Q (.int (lenE p f m)) H'
/-- [an int for x, y in a tuple of pairs] -/
theorem lcTi {K : PySem.W.Frag} {a : Addr} {xs : List V} {f : Pol} {σ : L2.St} {H : Hp} {vs : List Nat} {i j : Nat} {te tv : TE} {Q : VK} (G : Int × Int → Int) (hv : ∀ R : VK, R (.ref a) H → tv σ H R) (hs : SqT K H a xs) (hP : Prs K H xs f) (hl : f.length ≤ 100000)
    (hw : ∀ x y, wipe (((wipe σ vs).set i (some x)).set j (some y)) vs = wipe σ vs)
    (he : ∀ t ∈ f, ∀ H2, Same H H2 → ∀ R : VK, R (.int (G t)) H2 → te (((wipe σ vs).set i (some (.int t.1))).set j (some (.int t.2))) H2 R)
    (k : ∀ D H2, H D = none → Same H H2 → H2 D = some (.lst ((f.map G).map V.int)) → Q (.ref D) H2) : tLc (iTup K tv) (gTup K 2 (gCons (gName i) (gCons (gName j) gNil))) tYes te vs σ H Q := by
  refine hv _ ⟨a, rfl, ⟨_, hs⟩, fun D nD => lc_tup (K := K) (a := a) (xs := xs) (fun m H2 => Same H H2 ∧ H2 D = some (.lst (((f.take m).map G).map V.int))) ⟨same_new nD, upd_same⟩ (fun m H2 _ g => same_t g.1 hs) ?_ ?_⟩
  · rintro m x H2 hm ⟨s2, h2⟩
    obtain ⟨t, ht, b, rfl, hb⟩ := hP.get hm
    refine ⟨b, _, rfl, same_t s2 hb, rfl, _, _, rfl, _, _, rfl, rfl, hw _ _, ?_⟩
    dsimp only [tYes]
    rw [if_pos rfl]
    have hm2 : m < f.length := (List.getElem?_eq_some_iff.mp ht).1
    refine he t (List.mem_of_getElem? ht) H2 s2 _ ⟨_, h2, sl_lt (by rw [List.length_map, List.length_map, List.length_take]; omega), same_mut s2 nD, ?_⟩
    rw [upd_same, take_snoc ht, List.map_append, List.map_append]
    rfl
  · rintro H2 ⟨s2, h2⟩
    rw [hP.len, List.take_length] at h2
    exact k D H2 nD s2 h2
/-- [a pair of ints for k in range(..)], drawn by the pen -/
theorem lcPenP {K : PySem.W.Frag} {p c : Addr} {σ : L2.St} {H : Hp} {vs : List Nat} {i : Nat} {te : TE} {ta : TA} {Q : VK} (R : Int × Int → Prop) (N b cost : Nat) (hn : N ≤ 1000)
    (hw : ∀ x, wipe ((wipe σ vs).set i (some x)) vs = wipe σ vs) (pen0 : PenAt H p c 0 ∨ ∃ n, PenAt H p c n)
    (hv : ∀ S : List V → Hp → Prop, (∀ (r : Int) H1, 0 ≤ r → r ≤ (N : Int) → Kp p H H1 → PenAt H1 p c b → S [.int r] H1) → ta σ H S)
    (he : ∀ (m : Nat), m < N → ∀ H2, Kp p H H2 → PenAt H2 p c (b + cost * m) → ∀ S : VK, (∀ t H3 q, R t → H3 q = none → Kp p H2 H3 → PenAt H3 p c (b + cost * (m + 1)) → S (.ref q) (upd H3 q (.tup [.int t.1, .int t.2]))) → te ((wipe σ vs).set i (some (.int (0 + (m : Int))))) H2 S)
    (k : ∀ D H2 f, LPol K H2 (.ref D) f → f.length ≤ N → (∀ t ∈ f, R t) → Kp p H H2 → PenAt H2 p c (b + cost * N) → Q (.ref D) H2) : tLc (iRng1 ta) (gName i) tYes te vs σ H Q := by
  refine hv _ fun r H1 h0 h9 kp1 pen1 => ?_
  refine ⟨r, rfl, by omega, by omega, fun D nD => ?_⟩
  have npD := pen1.np nD
  have ncD := pen1.nc nD
  refine lc_range (lo := 0) (n := r.toNat) (fun m H2 => ∃ xs f, H2 D = some (.lst xs) ∧ Prs K H2 xs f ∧ f.length = m ∧ (∀ t ∈ f, R t) ∧ Kp p H1 H2 ∧ PenAt H2 p c (b + cost * m)) ⟨[], [], upd_same, .nil, rfl, fun t h => absurd h List.not_mem_nil, Same.kp (same_new nD), pen1.same (same_new nD)⟩ ?_ ?_
  · rintro m H2 hm ⟨xs, f, hD, hP, hl, hR, kp, pen2⟩
    refine ⟨hw _, ?_⟩
    dsimp only [tYes]
    rw [if_pos rfl]
    refine he m (by omega) H2 (kp1.trans kp) pen2 _ fun t H3 q ht nq k3 pen3 => ?_
    have hD3 : H3 D = some (.lst xs) := k3 _ _ npD hD
    have nDq : D ≠ q := ne_of_none hD3 nq
    have hD4 : upd H3 q (.tup [.int t.1, .int t.2]) D = some (.lst xs) := by
      rw [upd_ne nDq]
      exact hD3
    have t2 : Tp (upd H3 q (.tup [.int t.1, .int t.2])) (upd (upd H3 q (.tup [.int t.1, .int t.2])) D (.lst (xs ++ [.ref q]))) := tp_lst hD4
    refine ⟨xs, hD4, sl_lt (by rw [hP.len]; omega), xs ++ [.ref q], f ++ [t], upd_same, Prs.snoc (Prs.tp ((pen2.tp k3).trans ((tp_new nq).trans t2)) hP) (IsPr.tp t2 isPr_new), by rw [List.length_append, hl]; rfl, fun u hu => ?_, fun x o nx ex => ?_, (pen3.same (same_new nq)).upd npD ncD⟩
    · rcases List.mem_append.mp hu with z | z
      · exact hR u z
      · have e : u = t := by simpa using z
        rw [e]; exact ht
    · rw [upd_ne (ne_of_none ex nD)]
      have e3 := k3 _ _ nx (kp _ _ nx ex)
      rw [upd_ne (ne_of_none e3 nq)]
      exact e3
  · rintro H2 ⟨xs, f, hD, hP, hl, hR, kp, pen2⟩
    refine k D H2 f ⟨D, xs, rfl, SqL.of hD, hP⟩ (by omega) hR (kp1.trans kp) (pen2.mono ?_)
    have : r.toNat ≤ N := by omega
    exact Nat.add_le_add_left (Nat.mul_le_mul_left _ this) _
/-! ### effects that the laws draw -/
/-- canonical, of bounded size -/
structure DrE (q : Int) (g : Pol) (m : Int) (L : Nat) (B : Nat) : Prop where
  nf : Nf q g (cf g)
  len : g.length ≤ L
  abs : ∀ t ∈ g, t.1.natAbs ≤ B
  sh : m.natAbs ≤ B
def sp__law_wide : Sp := fun vs H Q _ => ∃ (p c : Addr) (most : Int) (n : Nat), vs = [.ref p, .int most] ∧ 0 ≤ most ∧ most.natAbs < 10 ^ 90 ∧ PenAt H p c n ∧ n + 7 < 2 ^ 40 ∧ ∀ r H', r.natAbs ≤ most.natAbs + 8 → Kp p H H' → PenAt H' p c (n + 7) → Q (.int r) H'
def sp__law_wide_effect (K : PySem.W.Frag) : Sp := fun vs H Q _ => ∃ (p c : Addr) (q terms most : Int) (n : Nat), vs = [.ref p, .int q, .int terms, .int most] ∧ 2 ≤ q ∧ q ≤ 97 ∧ 0 ≤ terms ∧ terms ≤ 100 ∧ 0 ≤ most ∧ most.natAbs < 10 ^ 80 ∧ PenAt H p c n ∧ n < 2 ^ 38 ∧
  ∀ v H' g sh, Kp p H H' → PenAt H' p c (n + 8 * terms.toNat + 10) → TEff K H' v g sh → DrE q g sh terms.toNat (most.natAbs + 8) → Q v H'
def sp__law_long_effect (K : PySem.W.Frag) : Sp := fun vs H Q _ => ∃ (p c : Addr) (q many : Int) (n : Nat), vs = [.ref p, .int q, .int many] ∧ 2 ≤ q ∧ q ≤ 97 ∧ 0 ≤ many ∧ many ≤ 1000 ∧ PenAt H p c n ∧ n < 2 ^ 38 ∧
  ∀ v H' g sh, Kp p H H' → PenAt H' p c (n + 5) → TEff K H' v g sh → DrE q g sh many.toNat 4000 → Q v H'
def sp__law_any_effect (K : PySem.W.Frag) : Sp := fun vs H Q _ => ∃ (p c : Addr) (q most many : Int) (n : Nat), vs = [.ref p, .int q, .int most, .int many] ∧ 2 ≤ q ∧ q ≤ 97 ∧ 0 ≤ most ∧ most.natAbs < 10 ^ 80 ∧ 0 ≤ many ∧ many ≤ 1000 ∧ PenAt H p c n ∧ n < 2 ^ 37 ∧
  ∀ v H' g sh, Kp p H H' → PenAt H' p c (n + 60) → TEff K H' v g sh → DrE q g sh 1000 (most.natAbs + 4000) → Q v H'
end DR
/-! ### programs -/
namespace DR
open PySem PySem.Spec PyProof.Rows L2
inductive Ins where
  | step (c : Int)
  | turn (c : Int)
  | rep (n : Int) (b : List Ins)
mutual
def shI : Ins → Int
  | .step c => c
  | .turn _ => 0
  | .rep n b => n * shP b
def shP : List Ins → Int
  | [] => 0
  | i :: r => shI i + shP r
end
mutual
def exI : Ins → Int
  | .step _ => 1
  | .turn _ => 1
  | .rep n b => n * exP b
def exP : List Ins → Int
  | [] => 0
  | i :: r => exI i + exP r
end
mutual
def dpI : Ins → Nat
  | .step _ => 0
  | .turn _ => 0
  | .rep _ b => dpP b + 1
def dpP : List Ins → Nat
  | [] => 0
  | i :: r => max (dpI i) (dpP r)
end
/-! how many instructions, inner ones too -/
mutual
def cnI : Ins → Nat
  | .step _ => 1
  | .turn _ => 1
  | .rep _ b => cnP b + 1
def cnP : List Ins → Nat
  | [] => 0
  | i :: r => cnI i + cnP r
end
/-! counts within 2 ^ 100, bodies of at most 1024 instructions -/
mutual
def WI : Ins → Prop
  | .step c => c.natAbs ≤ 2 ^ 100
  | .turn c => c.natAbs ≤ 2 ^ 100
  | .rep n b => n.natAbs ≤ 2 ^ 100 ∧ b.length ≤ 1024 ∧ WP b
def WP : List Ins → Prop
  | [] => True
  | i :: r => WI i ∧ WP r
end
theorem shP_nil : shP [] = 0 := by unfold shP; rfl
theorem shP_cons (i : Ins) (r : List Ins) : shP (i :: r) = shI i + shP r := by rw [shP]
theorem exP_nil : exP [] = 0 := by unfold exP; rfl
theorem exP_cons (i : Ins) (r : List Ins) : exP (i :: r) = exI i + exP r := by rw [exP]
theorem shP_app : ∀ (a b : List Ins), shP (a ++ b) = shP a + shP b
  | [], b => by rw [List.nil_append, shP_nil, Int.zero_add]
  | i :: r, b => by rw [List.cons_append, shP_cons, shP_cons, shP_app r b, Int.add_assoc]
theorem exP_app : ∀ (a b : List Ins), exP (a ++ b) = exP a + exP b
  | [], b => by rw [List.nil_append, exP_nil, Int.zero_add]
  | i :: r, b => by rw [List.cons_append, exP_cons, exP_cons, exP_app r b, Int.add_assoc]
theorem dpP_cons (i : Ins) (r : List Ins) : dpP (i :: r) = max (dpI i) (dpP r) := by rw [dpP]
theorem dpP_app : ∀ (a b : List Ins), dpP (a ++ b) = max (dpP a) (dpP b)
  | [], b => by
    rw [List.nil_append, show dpP [] = 0 by unfold dpP; rfl]
    omega
  | i :: r, b => by
    rw [List.cons_append, dpP_cons, dpP_cons, dpP_app r b]
    omega
theorem cnP_cons (i : Ins) (r : List Ins) : cnP (i :: r) = cnI i + cnP r := by rw [cnP]
theorem cnP_app : ∀ (a b : List Ins), cnP (a ++ b) = cnP a + cnP b
  | [], b => by
    rw [List.nil_append, show cnP [] = 0 by unfold cnP; rfl]
    omega
  | i :: r, b => by
    rw [List.cons_append, cnP_cons, cnP_cons, cnP_app r b]
    omega
theorem WP_cons (i : Ins) (r : List Ins) : WP (i :: r) = (WI i ∧ WP r) := by rw [WP]
theorem WP_app : ∀ (a b : List Ins), WP a → WP b → WP (a ++ b)
  | [], b, _, h => h
  | i :: r, b, h, h2 => by
    rw [List.cons_append, WP_cons]
    rw [WP_cons] at h
    exact ⟨h.1, WP_app r b h.2 h2⟩
theorem dpP_mem : ∀ {b : List Ins} {i : Ins}, i ∈ b → dpI i ≤ dpP b
  | [], _, h => absurd h List.not_mem_nil
  | j :: r, i, h => by
    rw [dpP_cons]
    rcases List.mem_cons.mp h with e | e
    · rw [e]; omega
    · have := dpP_mem e; omega
theorem WP_mem : ∀ {b : List Ins} {i : Ins}, WP b → i ∈ b → WI i
  | [], _, _, h => absurd h List.not_mem_nil
  | j :: r, i, w, h => by
    rw [WP_cons] at w
    rcases List.mem_cons.mp h with e | e
    · rw [e]; exact w.1
    · exact WP_mem w.2 e
theorem cnP_mem : ∀ {b : List Ins} {i : Ins}, i ∈ b → cnI i ≤ cnP b
  | [], _, h => absurd h List.not_mem_nil
  | j :: r, i, h => by
    rw [cnP_cons]
    rcases List.mem_cons.mp h with e | e
    · rw [e]; omega
    · have := cnP_mem e; omega
theorem cnI_pos (i : Ins) : 0 < cnI i := by
  cases i <;> unfold cnI <;> omega
theorem len_cnP : ∀ b : List Ins, b.length ≤ cnP b
  | [] => Nat.zero_le _
  | i :: r => by
    have := len_cnP r
    have := cnI_pos i
    rw [cnP_cons, List.length_cons]
    omega
/-- how large shifts and executed counts grow -/
theorem bigs (f : Ins → Int) (g : List Ins → Int) (h0 : g [] = 0) (hc : ∀ i r, g (i :: r) = f i + g r) (M : Nat) : ∀ (b : List Ins), (∀ i ∈ b, (f i).natAbs ≤ M) → (g b).natAbs ≤ M * b.length
  | [], _ => by rw [h0]; exact Nat.zero_le _
  | i :: r, h => by
    have h1 := h i List.mem_cons_self
    have h2 := bigs f g h0 hc M r fun j hj => h j (List.mem_cons_of_mem _ hj)
    rw [hc, List.length_cons, Nat.mul_add, Nat.mul_one]
    omega
theorem pow_le2 {a b : Nat} (h : a ≤ b) : 2 ^ a ≤ 2 ^ b := Nat.pow_le_pow_right (by decide) h
theorem sh_big : ∀ (k : Nat) (b : List Ins), dpP b ≤ k → WP b → b.length ≤ 1024 → (shP b).natAbs ≤ 2 ^ (110 * (k + 1))
  | k, b, hd, hw, hl => by
    have hI : ∀ i ∈ b, (shI i).natAbs ≤ 2 ^ (110 * k + 100) := fun i hi => by
      have wi := WP_mem hw hi
      have di := Nat.le_trans (dpP_mem hi) hd
      cases i with
      | step c =>
        rw [shI]
        rw [WI] at wi
        exact Nat.le_trans wi (pow_le2 (by omega))
      | turn c =>
        rw [shI]
        exact Nat.zero_le _
      | rep n bb =>
        rw [shI]
        rw [WI] at wi
        rw [dpI] at di
        have := sh_big (k - 1) bb (by omega) wi.2.2 wi.2.1
        rw [Int.natAbs_mul]
        have e : 110 * (k - 1 + 1) = 110 * k := by omega
        rw [e] at this
        have h3 := Nat.mul_le_mul wi.1 this
        rw [← Nat.pow_add] at h3
        rw [Nat.add_comm]
        exact h3
    have h := bigs shI shP shP_nil shP_cons _ b hI
    have h2 : 2 ^ (110 * k + 100) * b.length ≤ 2 ^ (110 * k + 100) * 2 ^ 10 := Nat.mul_le_mul_left _ hl
    rw [← Nat.pow_add] at h2
    exact Nat.le_trans h h2
termination_by k => k
decreasing_by
  rw [dpI] at di
  omega
theorem ex_big : ∀ (k : Nat) (b : List Ins), dpP b ≤ k → WP b → b.length ≤ 1024 → (exP b).natAbs ≤ 2 ^ (110 * (k + 1))
  | k, b, hd, hw, hl => by
    have hI : ∀ i ∈ b, (exI i).natAbs ≤ 2 ^ (110 * k + 100) := fun i hi => by
      have wi := WP_mem hw hi
      have di := Nat.le_trans (dpP_mem hi) hd
      cases i with
      | step c =>
        rw [exI]
        exact Nat.le_trans (show 1 ≤ 2 ^ 0 by decide) (pow_le2 (by omega))
      | turn c =>
        rw [exI]
        exact Nat.le_trans (show 1 ≤ 2 ^ 0 by decide) (pow_le2 (by omega))
      | rep n bb =>
        rw [exI]
        rw [WI] at wi
        rw [dpI] at di
        have := ex_big (k - 1) bb (by omega) wi.2.2 wi.2.1
        rw [Int.natAbs_mul]
        have e : 110 * (k - 1 + 1) = 110 * k := by omega
        rw [e] at this
        have h3 := Nat.mul_le_mul wi.1 this
        rw [← Nat.pow_add] at h3
        rw [Nat.add_comm]
        exact h3
    have h := bigs exI exP exP_nil exP_cons _ b hI
    have h2 : 2 ^ (110 * k + 100) * b.length ≤ 2 ^ (110 * k + 100) * 2 ^ 10 := Nat.mul_le_mul_left _ hl
    rw [← Nat.pow_add] at h2
    exact Nat.le_trans h h2
termination_by k => k
decreasing_by
  rw [dpI] at di
  omega
/-! ### as data -/
mutual
inductive IsI : PyData → Ins → Prop
  | step (c : Int) : IsI (.tuple [.str "step", .int c]) (.step c)
  | turn (c : Int) : IsI (.tuple [.str "turn", .int c]) (.turn c)
  | rep {d : PyData} {b : List Ins} (n : Int) : IsP d b → IsI (.tuple [.str "repeat", .int n, d]) (.rep n b)
inductive IsP : PyData → List Ins → Prop
  | lst {ds : List PyData} {b : List Ins} : IsAll ds b → IsP (.list ds) b
  | tup {ds : List PyData} {b : List Ins} : IsAll ds b → IsP (.tuple ds) b
inductive IsAll : List PyData → List Ins → Prop
  | nil : IsAll [] []
  | cons {d : PyData} {i : Ins} {ds : List PyData} {b : List Ins} : IsI d i → IsAll ds b → IsAll (d :: ds) (i :: b)
end
theorem IsAll.len : ∀ {ds : List PyData} {b : List Ins}, IsAll ds b → ds.length = b.length
  | _, _, .nil => rfl
  | _, _, .cons _ t => by rw [List.length_cons, List.length_cons, IsAll.len t]
theorem IsAll.get : ∀ {ds : List PyData} {b : List Ins} {j : Nat} {d : PyData}, IsAll ds b → ds[j]? = some d → ∃ i, b[j]? = some i ∧ IsI d i
  | _, _, _, _, .nil, e => by simp at e
  | _, _, 0, _, .cons h _, e => by
    simp at e
    subst e
    exact ⟨_, rfl, h⟩
  | _, _, j + 1, d, .cons _ t, e => by
    obtain ⟨i, h1, h2⟩ := IsAll.get (j := j) (d := d) t (by simpa using e)
    exact ⟨i, by simpa using h1, h2⟩
theorem IsAll.app : ∀ {ds es : List PyData} {a b : List Ins}, IsAll ds a → IsAll es b → IsAll (ds ++ es) (a ++ b)
  | _, _, _, _, .nil, h => h
  | _, _, _, _, .cons h t, h2 => .cons h (IsAll.app t h2)
/-! shown -/
mutual
theorem isI_fits : ∀ {d : PyData} {i : Ins}, IsI d i → WI i → Fits (150 * cnI i - 2) (2 * dpI i + 1) d
  | _, _, .step c, w => by
    rw [WI] at w
    have h := fits_2 (n := 10) (k := 0) (d := .str "step") ⟨by decide +kernel, by decide +kernel, by decide +kernel, by decide +kernel⟩ (fits_int (i := c) (Nat.lt_of_le_of_lt w (by decide +kernel)))
    refine h.up ?_ ?_
    · rw [cnI]; decide
    · rw [dpI]; decide
  | _, _, .turn c, w => by
    rw [WI] at w
    have h := fits_2 (n := 10) (k := 0) (d := .str "turn") ⟨by decide +kernel, by decide +kernel, by decide +kernel, by decide +kernel⟩ (fits_int (i := c) (Nat.lt_of_le_of_lt w (by decide +kernel)))
    refine h.up ?_ ?_
    · rw [cnI]; decide
    · rw [dpI]; decide
  | _, _, .rep (d := d) (b := b) n hp, w => by
    rw [WI] at w
    have h := fits_3 (n := 10) (k := 0) (d := .str "repeat") ⟨by decide +kernel, by decide +kernel, by decide +kernel, by decide +kernel⟩ (fits_int (i := n) (Nat.lt_of_le_of_lt w.1 (by decide +kernel))) (isP_fits hp w.2.2)
    refine h.up ?_ ?_
    · rw [cnI]; omega
    · rw [dpI]; omega
theorem isP_fits : ∀ {d : PyData} {b : List Ins}, IsP d b → WP b → Fits (150 * cnP b + 5) (2 * dpP b + 2) d
  | _, _, .lst (ds := ds) h, w => by
    obtain ⟨a1, a2, a3, a4, a5⟩ := isAll_fits h w
    refine ⟨a1, a2, ?_, ?_⟩
    · show PyData.depthAll ds + 1 ≤ _
      omega
    · show (listText (PyData.shownAll ds)).length ≤ _
      have := listText_len_le (PyData.shownAll ds)
      omega
  | _, _, .tup (ds := ds) h, w => by
    obtain ⟨a1, a2, a3, a4, a5⟩ := isAll_fits h w
    refine ⟨a1, a2, ?_, ?_⟩
    · show PyData.depthAll ds + 1 ≤ _
      omega
    · show (tupleText (PyData.shownAll ds)).length ≤ _
      have := tupleText_len_le (PyData.shownAll ds)
      omega
theorem isAll_fits : ∀ {ds : List PyData} {b : List Ins}, IsAll ds b → WP b → PyData.showableAll ds = true ∧ PyData.hasDictAll ds = false ∧ PyData.depthAll ds ≤ 2 * dpP b + 1 ∧ ((PyData.shownAll ds).map (·.length)).sum + 2 * (PyData.shownAll ds).length ≤ 150 * cnP b ∧ (PyData.shownAll ds).length = b.length
  | _, _, .nil, _ => ⟨rfl, rfl, Nat.zero_le _, Nat.le_refl _, rfl⟩
  | _, _, .cons (d := d) (i := i) (ds := ds) (b := b) h t, w => by
    rw [WP_cons] at w
    obtain ⟨a1, a2, a3, a4, a5⟩ := isAll_fits t w.2
    obtain ⟨b1, b2, b3, b4⟩ := isI_fits h w.1
    refine ⟨?_, ?_, ?_, ?_, ?_⟩
    · show (d.showable && PyData.showableAll ds) = true
      rw [a1, b1]
      rfl
    · show (d.hasDict || PyData.hasDictAll ds) = false
      rw [a2, b2]
      rfl
    · show max d.depth (PyData.depthAll ds) ≤ _
      rw [dpP_cons]
      omega
    · show (d.shown.length :: ((PyData.shownAll ds).map (·.length))).sum + 2 * ((PyData.shownAll ds).length + 1) ≤ _
      have := cnI_pos i
      rw [List.sum_cons, cnP_cons]
      omega
    · show (PyData.shownAll ds).length + 1 = _
      rw [a5, List.length_cons]
end
end DR
namespace DR
open PySem PySem.Spec PyProof.Rows L2
theorem iteS {c A B : Prop} [Decidable c] (hc : c) (h : A) : if decide c = true then A else B := by
  rw [if_pos (decide_eq_true hc)]
  exact h
theorem iteN {c A B : Prop} [Decidable c] (hc : ¬ c) (h : B) : if decide c = true then A else B := by
  rw [if_neg (by rw [decide_eq_false hc]; exact Bool.false_ne_true)]
  exact h
theorem iteNN {c A B : Prop} [Decidable c] (hc : ¬ c) (h : A) : if (!decide c) = true then A else B := by
  rw [if_pos (by rw [decide_eq_false hc]; rfl)]
  exact h
theorem v_ts : ¬ (V.str "turn" = V.str "step") := by decide +kernel
theorem v_rs : ¬ (V.str "repeat" = V.str "step") := by decide +kernel
theorem v_sr : ¬ (V.str "step" = V.str "repeat") := by decide +kernel
theorem v_tr : ¬ (V.str "turn" = V.str "repeat") := by decide +kernel
theorem v_rt : ¬ (V.str "repeat" = V.str "turn") := by decide +kernel
theorem v_st : ¬ (V.str "step" = V.str "turn") := by decide +kernel
/-! ### a def that calls itself: a level for each depth -/
theorem cal_rec {P : Program} {w : World} {K : PySem.W.Frag} {mg : Str → Option Value} {base : Heap} {x : Str} {st : Stmt} {ps : List Str} (c : Nat) {sp : Nat → Sp} (D : Df K mg x st)
    (b : ∀ (kV doc pm : Value) (an : Option Addr) (cdv ct : Value) (us : List Value), us.length = ps.length → bindArgs (PySem.W.fnOf x x (defArgs st) (defBody st) (defScope st) .none kV doc pm an cdv ct) ⟨us, []⟩ = pure (ps.zip us))
    (h0 : ∀ vs H Q E, ¬ sp 0 vs H Q E)
    (step : ∀ k, Cal P w K mg base (k + c) x (sp k) → ∀ f fd, Fun K x x st f fd → FnOk P w K mg base CX0 (k + c + 1) f fd ps (sp (k + 1))) : ∀ k, Cal P w K mg base (k + c) x (sp k)
  | 0 => by
    obtain ⟨f, fd, F, hm, kp⟩ := D.ex
    exact ⟨f, fd, ps, ⟨fun vs H Q E h => absurd h (h0 vs H Q E), fun A outer s H args us vs Q E _ _ _ _ h => absurd h (h0 vs H Q E)⟩, hm, kp, F.binds b⟩
  | k + 1 => by
    obtain ⟨f, fd, F, hm, kp⟩ := D.ex
    have := step k (cal_rec c D b h0 step k) f fd F
    exact ⟨f, fd, ps, (show k + c + 1 = k + 1 + c by omega) ▸ this, hm, kp, F.binds b⟩
/-! ### programs in the heap -/
def PV (K : PySem.W.Frag) (H : Hp) (v : V) (b : List Ins) : Prop := ∃ d, Dp K H v d ∧ IsP d b
def IV (K : PySem.W.Frag) (H : Hp) (v : V) (i : Ins) : Prop := ∃ d, Dp K H v d ∧ IsI d i
abbrev IVs (K : PySem.W.Frag) (H : Hp) : List V → List Ins → Prop := Paired (IV K H)
section
variable {K : PySem.W.Frag} {H H' : Hp} {v x : V} {b : List Ins} {i : Ins} {xs : List V}
theorem PV.same (e : Same H H') (h : PV K H v b) : PV K H' v b := h.elim fun d z => ⟨d, Dp.same e z.1, z.2⟩
theorem IV.same (e : Same H H') (h : IV K H v i) : IV K H' v i := h.elim fun d z => ⟨d, Dp.same e z.1, z.2⟩
theorem PV.kp {p c : Addr} {n : Nat} (pen : PenAt H p c n) (k : Kp p H H') (h : PV K H v b) : PV K H' v b := h.elim fun d z => ⟨d, Dp.kp pen k z.1, z.2⟩
theorem IV.kp {p c : Addr} {n : Nat} (pen : PenAt H p c n) (k : Kp p H H') (h : IV K H v i) : IV K H' v i := h.elim fun d z => ⟨d, Dp.kp pen k z.1, z.2⟩
theorem IVs.same (e : Same H H') : ∀ {xs : List V} {b : List Ins}, IVs K H xs b → IVs K H' xs b
  | _, _, .nil => .nil
  | _, _, .cons r q => .cons (r.same e) (IVs.same e q)
theorem IVs.kp {p c : Addr} {n : Nat} (pen : PenAt H p c n) (k : Kp p H H') : ∀ {xs : List V} {b : List Ins}, IVs K H xs b → IVs K H' xs b
  | _, _, .nil => .nil
  | _, _, .cons r q => .cons (r.kp pen k) (IVs.kp pen k q)
theorem IVs.len (h : IVs K H xs b) : xs.length = b.length := Paired.length h
theorem IVs.get : ∀ {xs : List V} {b : List Ins} {j : Nat} {x : V}, IVs K H xs b → xs[j]? = some x → ∃ i, b[j]? = some i ∧ IV K H x i
  | _, _, _, _, .nil, e => by simp at e
  | _, _, 0, _, .cons r _, e => by
    simp at e
    subst e
    exact ⟨_, rfl, r⟩
  | _, _, j + 1, x, .cons _ q, e => by
    obtain ⟨t, h1, h2⟩ := IVs.get (j := j) (x := x) q (by simpa using e)
    exact ⟨t, by simpa using h1, h2⟩
theorem IVs.app : ∀ {xs ys : List V} {b c : List Ins}, IVs K H xs b → IVs K H ys c → IVs K H (xs ++ ys) (b ++ c)
  | _, _, _, _, .nil, h => h
  | _, _, _, _, .cons r q, h => .cons r (IVs.app q h)
theorem IVs.take : ∀ {xs : List V} {b : List Ins} (n : Nat), IVs K H xs b → IVs K H (xs.take n) (b.take n)
  | _, _, 0, _ => .nil
  | _, _, n + 1, .nil => .nil
  | _, _, n + 1, .cons r q => .cons r (IVs.take n q)
theorem IVs.drop : ∀ {xs : List V} {b : List Ins} (n : Nat), IVs K H xs b → IVs K H (xs.drop n) (b.drop n)
  | _, _, 0, h => h
  | _, _, n + 1, .nil => .nil
  | _, _, n + 1, .cons r q => IVs.drop n q
theorem IVs.all : ∀ {xs : List V} {b : List Ins}, IVs K H xs b → ∃ ds, DpAll K H xs ds ∧ IsAll ds b
  | _, _, .nil => ⟨[], .nil, .nil⟩
  | _, _, .cons ⟨d, h1, h2⟩ q => by
    obtain ⟨ds, a1, a2⟩ := IVs.all q
    exact ⟨d :: ds, .cons h1 a1, .cons h2 a2⟩
theorem ivs_of : ∀ {xs : List V} {ds : List PyData} {b : List Ins}, DpAll K H xs ds → IsAll ds b → IVs K H xs b
  | _, _, _, .nil, .nil => .nil
  | _, _, _, .cons h t, .cons h2 t2 => .cons ⟨_, h, h2⟩ (ivs_of t t2)
theorem pv_list {a : Addr} (h : SqL K H a xs) (hI : IVs K H xs b) : PV K H (.ref a) b := by
  obtain ⟨ds, a1, a2⟩ := hI.all
  exact ⟨_, .lst h a1, .lst a2⟩
theorem pv_tup {a : Addr} (h : SqT K H a xs) (hI : IVs K H xs b) : PV K H (.ref a) b := by
  obtain ⟨ds, a1, a2⟩ := hI.all
  exact ⟨_, .tup h a1, .tup a2⟩
theorem PV.inv (h : PV K H v b) : ∃ a xs, v = .ref a ∧ (SqL K H a xs ∨ SqT K H a xs) ∧ IVs K H xs b := by
  obtain ⟨d, hd, hp⟩ := h
  cases hp with
  | lst ha =>
    cases hd with
    | lst hs hall => exact ⟨_, _, rfl, .inl hs, ivs_of hall ha⟩
  | tup ha =>
    cases hd with
    | tup hs hall => exact ⟨_, _, rfl, .inr hs, ivs_of hall ha⟩
theorem IV.inv (h : IV K H x i) : (∃ a c, x = .ref a ∧ SqT K H a [.str "step", .int c] ∧ i = .step c) ∨ (∃ a c, x = .ref a ∧ SqT K H a [.str "turn", .int c] ∧ i = .turn c) ∨
    ∃ a n y bb, x = .ref a ∧ SqT K H a [.str "repeat", .int n, y] ∧ PV K H y bb ∧ i = .rep n bb := by
  obtain ⟨d, hd, hi⟩ := h
  cases hi with
  | step c =>
    obtain ⟨a, xs, rfl, hs, hall⟩ := Dp.tup_inv hd
    cases hall with
    | cons h1 t =>
      cases t with
      | cons h2 t2 =>
        cases t2
        cases h1
        cases h2
        exact .inl ⟨a, c, rfl, hs, rfl⟩
  | turn c =>
    obtain ⟨a, xs, rfl, hs, hall⟩ := Dp.tup_inv hd
    cases hall with
    | cons h1 t =>
      cases t with
      | cons h2 t2 =>
        cases t2
        cases h1
        cases h2
        exact .inr (.inl ⟨a, c, rfl, hs, rfl⟩)
  | rep n hp =>
    obtain ⟨a, xs, rfl, hs, hall⟩ := Dp.tup_inv hd
    cases hall with
    | cons h1 t =>
      cases t with
      | cons h2 t2 =>
        cases t2 with
        | cons h3 t3 =>
          cases t3
          cases h1
          cases h2
          exact .inr (.inr ⟨a, n, _, _, rfl, hs, ⟨_, h3, hp⟩, rfl⟩)
theorem iv_step {a : Addr} {c : Int} (h : SqT K H a [.str "step", .int c]) : IV K H (.ref a) (.step c) := ⟨_, .tup h (.cons (.str _) (.cons (.int _) .nil)), .step c⟩
theorem iv_turn {a : Addr} {c : Int} (h : SqT K H a [.str "turn", .int c]) : IV K H (.ref a) (.turn c) := ⟨_, .tup h (.cons (.str _) (.cons (.int _) .nil)), .turn c⟩
theorem iv_rep {a : Addr} {n : Int} {y : V} {bb : List Ins} (h : SqT K H a [.str "repeat", .int n, y]) (hp : PV K H y bb) : IV K H (.ref a) (.rep n bb) := by
  obtain ⟨d, hd, hp⟩ := hp
  exact ⟨_, .tup h (.cons (.str _) (.cons (.int _) (.cons hd .nil))), .rep n hp⟩
end
/-! flat instructions: steps and turns alone; they stay while tuples stay -/
def FI (K : PySem.W.Frag) (H : Hp) (x : V) (i : Ins) : Prop := (∃ a c, x = .ref a ∧ SqT K H a [.str "step", .int c] ∧ i = .step c) ∨ (∃ a c, x = .ref a ∧ SqT K H a [.str "turn", .int c] ∧ i = .turn c)
abbrev FIs (K : PySem.W.Frag) (H : Hp) : List V → List Ins → Prop := Paired (FI K H)
section
variable {K : PySem.W.Frag} {H H' : Hp} {v x : V} {b : List Ins} {i : Ins} {xs : List V}
theorem FI.tp (t : Tp H H') (h : FI K H x i) : FI K H' x i := by
  rcases h with ⟨a, c, e, hs, ei⟩ | ⟨a, c, e, hs, ei⟩
  · exact .inl ⟨a, c, e, tp_t t hs, ei⟩
  · exact .inr ⟨a, c, e, tp_t t hs, ei⟩
theorem FI.iv (h : FI K H x i) : IV K H x i := by
  rcases h with ⟨a, c, rfl, hs, rfl⟩ | ⟨a, c, rfl, hs, rfl⟩
  · exact iv_step hs
  · exact iv_turn hs
theorem FIs.tp (t : Tp H H') : ∀ {xs : List V} {b : List Ins}, FIs K H xs b → FIs K H' xs b
  | _, _, .nil => .nil
  | _, _, .cons r q => .cons (r.tp t) (FIs.tp t q)
theorem FIs.ivs : ∀ {xs : List V} {b : List Ins}, FIs K H xs b → IVs K H xs b
  | _, _, .nil => .nil
  | _, _, .cons r q => .cons r.iv (FIs.ivs q)
theorem FIs.snoc : ∀ {xs : List V} {b : List Ins}, FIs K H xs b → FI K H x i → FIs K H (xs ++ [x]) (b ++ [i])
  | _, _, .nil, h => .cons h .nil
  | _, _, .cons r q, h => .cons r (FIs.snoc q h)
theorem FIs.len (h : FIs K H xs b) : xs.length = b.length := Paired.length h
end
def isFlat : Ins → Prop
  | .rep _ _ => False
  | _ => True
def cntOf : Ins → Int
  | .step c => c
  | .turn c => c
  | .rep n _ => n
/-- a body of steps and turns: so many, with counts within reach -/
structure Flat (b : List Ins) (N : Nat) (R : Nat) : Prop where
  len : b.length ≤ N
  flat : ∀ i ∈ b, isFlat i
  cnt : ∀ i ∈ b, (cntOf i).natAbs ≤ R
theorem Flat.dp : ∀ {b : List Ins} {N R : Nat}, Flat b N R → dpP b = 0
  | [], _, _, _ => by unfold dpP; rfl
  | i :: r, N, R, h => by
    have h1 := h.flat i List.mem_cons_self
    have h2 : dpI i = 0 := by cases i <;> first | exact absurd h1 id | (rw [dpI])
    rw [dpP_cons, h2, Flat.dp (b := r) (N := N) (R := R) ⟨by have := h.len; rw [List.length_cons] at this; omega, fun j hj => h.flat j (List.mem_cons_of_mem _ hj), fun j hj => h.cnt j (List.mem_cons_of_mem _ hj)⟩]
    rfl
theorem Flat.w : ∀ {b : List Ins} {N R : Nat}, Flat b N R → R ≤ 2 ^ 100 → WP b
  | [], _, _, _, _ => by rw [WP]; trivial
  | i :: r, N, R, h, hR => by
    have h1 := h.flat i List.mem_cons_self
    have h3 := h.cnt i List.mem_cons_self
    rw [WP_cons]
    refine ⟨?_, Flat.w (b := r) (N := N) (R := R) ⟨by have := h.len; rw [List.length_cons] at this; omega, fun j hj => h.flat j (List.mem_cons_of_mem _ hj), fun j hj => h.cnt j (List.mem_cons_of_mem _ hj)⟩ hR⟩
    cases i with
    | step c => rw [WI]; exact Nat.le_trans h3 hR
    | turn c => rw [WI]; exact Nat.le_trans h3 hR
    | rep n b => exact absurd h1 id
theorem Flat.cn : ∀ {b : List Ins} {N R : Nat}, Flat b N R → cnP b = b.length
  | [], _, _, _ => by unfold cnP; rfl
  | i :: r, N, R, h => by
    have h1 := h.flat i List.mem_cons_self
    have h2 : cnI i = 1 := by cases i <;> first | exact absurd h1 id | (rw [cnI])
    rw [cnP_cons, h2, Flat.cn (b := r) (N := N) (R := R) ⟨by have := h.len; rw [List.length_cons] at this; omega, fun j hj => h.flat j (List.mem_cons_of_mem _ hj), fun j hj => h.cnt j (List.mem_cons_of_mem _ hj)⟩, List.length_cons]
    omega
/-- a program of the laws: depth, counts, how many instructions -/
structure PrOk (b : List Ins) (k N : Nat) : Prop where
  dp : dpP b ≤ k
  w : WP b
  cn : cnP b ≤ N
theorem Flat.ok {b : List Ins} {N R : Nat} (h : Flat b N R) (hR : R ≤ 2 ^ 100) : PrOk b 0 N := ⟨Nat.le_of_eq h.dp, h.w hR, by rw [h.cn]; exact h.len⟩
theorem PrOk.app {b c : List Ins} {k j N M : Nat} (h : PrOk b k N) (h2 : PrOk c j M) : PrOk (b ++ c) (max k j) (N + M) := ⟨by rw [dpP_app]; have := h.dp; have := h2.dp; omega, WP_app _ _ h.w h2.w, by rw [cnP_app]; have := h.cn; have := h2.cn; omega⟩
theorem PrOk.rep {b : List Ins} {k N : Nat} (h : PrOk b k N) (hN : N ≤ 1024) {n : Int} (hn : n.natAbs ≤ 2 ^ 100) : PrOk [.rep n b] (k + 1) (N + 1) := by
  refine ⟨?_, ?_, ?_⟩
  · rw [dpP_cons, dpI, show dpP [] = 0 by unfold dpP; rfl]
    have := h.dp
    omega
  · rw [WP_cons, WI]
    exact ⟨⟨hn, Nat.le_trans (len_cnP b) (Nat.le_trans h.cn hN), h.w⟩, by rw [WP]; trivial⟩
  · rw [cnP_cons, cnI, show cnP [] = 0 by unfold cnP; rfl]
    have := h.cn
    omega
theorem PrOk.up {b : List Ins} {k N k' N' : Nat} (h : PrOk b k N) (a : k ≤ k') (c : N ≤ N') : PrOk b k' N' := ⟨Nat.le_trans h.dp a, h.w, Nat.le_trans h.cn c⟩
def sp_shift_of (K : PySem.W.Frag) (k : Nat) : Sp := fun vs H Q _ => ∃ (v : V) (b : List Ins), vs = [v] ∧ PV K H v b ∧ dpP b < k ∧ k ≤ 3 ∧ WP b ∧ b.length ≤ 1024 ∧ Q (.int (shP b)) H
def sp_executed (K : PySem.W.Frag) (k : Nat) : Sp := fun vs H Q _ => ∃ (v : V) (b : List Ins), vs = [v] ∧ PV K H v b ∧ dpP b < k ∧ k ≤ 3 ∧ WP b ∧ b.length ≤ 1024 ∧ Q (.int (exP b)) H
theorem shP_snoc {b : List Ins} {j : Nat} {i : Ins} (h : b[j]? = some i) : shP (b.take (j + 1)) = shP (b.take j) + shI i := by
  rw [take_snoc h, shP_app, shP_cons, shP_nil, Int.add_zero]
theorem exP_snoc {b : List Ins} {j : Nat} {i : Ins} (h : b[j]? = some i) : exP (b.take (j + 1)) = exP (b.take j) + exI i := by
  rw [take_snoc h, exP_app, exP_cons, exP_nil, Int.add_zero]
theorem sh_lt {b : List Ins} {k : Nat} (h : dpP b < k) (hk : k ≤ 3) (w : WP b) (l : b.length ≤ 1024) : (shP b).natAbs < 2 ^ 331 := by
  have := sh_big 2 b (by omega) w l
  exact Nat.lt_of_le_of_lt this (by decide +kernel)
theorem ex_lt {b : List Ins} {k : Nat} (h : dpP b < k) (hk : k ≤ 3) (w : WP b) (l : b.length ≤ 1024) : (exP b).natAbs < 2 ^ 331 := by
  have := ex_big 2 b (by omega) w l
  exact Nat.lt_of_le_of_lt this (by decide +kernel)
def sp__law_body (K : PySem.W.Frag) : Sp := fun vs H Q _ => ∃ (p c : Addr) (most reach : Int) (n : Nat), vs = [.ref p, .int most, .int reach] ∧ 0 ≤ most ∧ most ≤ 100 ∧ 0 ≤ reach ∧ reach.natAbs < 10 ^ 90 ∧ PenAt H p c n ∧ n < 2 ^ 39 ∧
  ∀ D xs b H', H D = none → Kp p H H' → PenAt H' p c (n + 3 * most.toNat + 1) → H' D = some (.lst xs) → FIs K H' xs b → Flat b most.toNat (reach.natAbs + 3) → Q (.ref D) H'
end DR
namespace DR
open PySem PySem.Spec PyProof.Rows L2
def sp__law_program (K : PySem.W.Frag) : Sp := fun vs H Q _ => ∃ (p c : Addr) (most reach rounds : Int) (n : Nat), vs = [.ref p, .int most, .int reach, .int rounds] ∧ 0 ≤ most ∧ most ≤ 50 ∧ 0 ≤ reach ∧ reach ≤ 10 ^ 30 ∧ 0 ≤ rounds ∧ rounds ≤ 10 ^ 30 ∧ PenAt H p c n ∧ n < 2 ^ 38 ∧
  ∀ F xs b H', Kp p H H' → PenAt H' p c (n + 2000) → H' F = some (.lst xs) → IVs K H' xs b → PrOk b 2 656 → Q (.ref F) H'
def sp__law_wide_program (K : PySem.W.Frag) : Sp := fun vs H Q _ => ∃ (p c : Addr) (most : Int) (n : Nat), vs = [.ref p, .int most] ∧ 0 ≤ most ∧ most ≤ 50 ∧ PenAt H p c n ∧ n < 2 ^ 37 ∧
  ∀ F xs b H', Kp p H H' → PenAt H' p c (n + 2002) → H' F = some (.lst xs) → IVs K H' xs b → PrOk b 2 656 → Q (.ref F) H'
def sp__law_full_program (K : PySem.W.Frag) : Sp := fun vs H Q _ => ∃ (p c : Addr) (n : Nat), vs = [.ref p] ∧ PenAt H p c n ∧ n < 2 ^ 37 ∧
  ∀ F xs b H', Kp p H H' → PenAt H' p c (n + 500) → H' F = some (.lst xs) → IVs K H' xs b → PrOk b 2 1000 → Q (.ref F) H'
def sp__law_handed (K : PySem.W.Frag) (k : Nat) : Sp := fun vs H Q _ => ∃ (p c : Addr) (v : V) (b : List Ins) (n : Nat), vs = [.ref p, v] ∧ PV K H v b ∧ dpP b < k ∧ cnP b ≤ 1000 ∧ PenAt H p c n ∧ n + cnP b + 1 < 2 ^ 39 ∧
  ∀ u H', Kp p H H' → PenAt H' p c (n + cnP b + 1) → PV K (er H H') u b → Q u H'
def sp__law_shift (K : PySem.W.Frag) (k : Nat) : Sp := fun vs H Q _ => ∃ (v : V) (b : List Ins), vs = [v] ∧ PV K H v b ∧ dpP b < k ∧ k ≤ 3 ∧ WP b ∧ b.length ≤ 1024 ∧ ∀ H', Same H H' → Q (.int (shP b)) H'
def sp__law_executed (K : PySem.W.Frag) (k : Nat) : Sp := fun vs H Q _ => ∃ (v : V) (b : List Ins), vs = [v] ∧ PV K H v b ∧ dpP b < k ∧ k ≤ 3 ∧ WP b ∧ b.length ≤ 1024 ∧ ∀ H', Same H H' → Q (.int (exP b)) H'
theorem sh_sum : ∀ b : List Ins, (b.map shI).sum = shP b
  | [] => by rw [shP_nil]; rfl
  | i :: r => by rw [List.map_cons, List.sum_cons, sh_sum r, shP_cons]
theorem ex_sum : ∀ b : List Ins, (b.map exI).sum = exP b
  | [] => by rw [exP_nil]; rfl
  | i :: r => by rw [List.map_cons, List.sum_cons, ex_sum r, exP_cons]
/-! [an int for x in a program] -/
section
variable {K : PySem.W.Frag} {a : Addr} {xs : List V} {b : List Ins} {σ : L2.St} {H : Hp} {vs : List Nat} {n i : Nat} {te tv : TE} {Q : VK}
theorem lcIvL (G : Ins → Int) (hv : ∀ R : VK, R (.ref a) H → tv σ H R) (hs : SqL K H a xs) (hI : IVs K H xs b) (hl : b.length ≤ 100000)
    (hw : ∀ x, wipe ((wipe σ vs).set i (some x)) vs = wipe σ vs)
    (he : ∀ t ∈ b, ∀ x H2, Same H H2 → IV K H2 x t → ∀ R : VK, (∀ H3, Same H2 H3 → R (.int (G t)) H3) → te ((wipe σ vs).set i (some x)) H2 R)
    (k : ∀ D H2, H D = none → Same H H2 → H2 D = some (.lst ((b.map G).map V.int)) → Q (.ref D) H2) : tLc (iList K tv) (gName i) tYes te vs σ H Q := by
  refine hv _ ⟨a, rfl, ⟨_, hs⟩, fun D nD => lc_list (K := K) (a := a) (xs := xs) (fun m H2 => Same H H2 ∧ H2 D = some (.lst (((b.take m).map G).map V.int))) ⟨same_new nD, upd_same⟩ (fun m H2 _ g => same_l g.1 hs) ?_ ?_⟩
  · rintro m x H2 hm ⟨s2, h2⟩
    obtain ⟨t, ht, hx⟩ := hI.get hm
    refine ⟨hw _, ?_⟩
    dsimp only [tYes]
    rw [if_pos rfl]
    have hm2 : m < b.length := (List.getElem?_eq_some_iff.mp ht).1
    refine he t (List.mem_of_getElem? ht) x H2 s2 (hx.same s2) _ fun H3 s3 => ⟨_, s3 _ _ h2, sl_lt (by rw [List.length_map, List.length_map, List.length_take]; omega), same_mut (s2.trans s3) nD, ?_⟩
    rw [upd_same, take_snoc ht, List.map_append, List.map_append]
    rfl
  · rintro H2 ⟨s2, h2⟩
    rw [hI.len, List.take_length] at h2
    exact k D H2 nD s2 h2
theorem lcIvT (G : Ins → Int) (hv : ∀ R : VK, R (.ref a) H → tv σ H R) (hs : SqT K H a xs) (hI : IVs K H xs b) (hl : b.length ≤ 100000)
    (hw : ∀ x, wipe ((wipe σ vs).set i (some x)) vs = wipe σ vs)
    (he : ∀ t ∈ b, ∀ x H2, Same H H2 → IV K H2 x t → ∀ R : VK, (∀ H3, Same H2 H3 → R (.int (G t)) H3) → te ((wipe σ vs).set i (some x)) H2 R)
    (k : ∀ D H2, H D = none → Same H H2 → H2 D = some (.lst ((b.map G).map V.int)) → Q (.ref D) H2) : tLc (iTup K tv) (gName i) tYes te vs σ H Q := by
  refine hv _ ⟨a, rfl, ⟨_, hs⟩, fun D nD => lc_tup (K := K) (a := a) (xs := xs) (fun m H2 => Same H H2 ∧ H2 D = some (.lst (((b.take m).map G).map V.int))) ⟨same_new nD, upd_same⟩ (fun m H2 _ g => same_t g.1 hs) ?_ ?_⟩
  · rintro m x H2 hm ⟨s2, h2⟩
    obtain ⟨t, ht, hx⟩ := hI.get hm
    refine ⟨hw _, ?_⟩
    dsimp only [tYes]
    rw [if_pos rfl]
    have hm2 : m < b.length := (List.getElem?_eq_some_iff.mp ht).1
    refine he t (List.mem_of_getElem? ht) x H2 s2 (hx.same s2) _ fun H3 s3 => ⟨_, s3 _ _ h2, sl_lt (by rw [List.length_map, List.length_map, List.length_take]; omega), same_mut (s2.trans s3) nD, ?_⟩
    rw [upd_same, take_snoc ht, List.map_append, List.map_append]
    rfl
  · rintro H2 ⟨s2, h2⟩
    rw [hI.len, List.take_length] at h2
    exact k D H2 nD s2 h2
end
/-! rules whose fragment is told: for the inside of comprehensions -/
section
variable {X : Cx}
theorem ix_tupK (K : PySem.W.Frag) (h : X.K = K) : IxR X (rIxT K) := h ▸ ix_tup
theorem ix_listK (K : PySem.W.Frag) (h : X.K = K) : IxR X (rIxL K) := h ▸ ix_list
theorem op_catAK (K : PySem.W.Frag) (h : X.K = K) : OpR X (binaryOp .Add) (rCatA K) := h ▸ op_catA
theorem sl_tupAK (K : PySem.W.Frag) (h : X.K = K) : SlR X (rSlA K) := h ▸ sl_tupA
theorem sl_listK (K : PySem.W.Frag) (h : X.K = K) : SlR X (rSlL K) := h ▸ sl_list
end
/-! lists that stay while the pen draws -/
theorem kp_lst {H H' : Hp} {p c F : Addr} {n : Nat} {xs : List V} (pen : PenAt H p c n) (k : Kp p H H') (h : H F = some (.lst xs)) : H' F = some (.lst xs) :=
  k _ _ (pen.dict.elim fun _ e => ne_of h e (by intro z; cases z)) h
end DR
namespace DR
open PySem PySem.Spec PyProof.Rows L2
/-! ### what a program turns: at each place, run from 0 -/
def rsum (f : Int → Int) (s : Int) : Nat → Int → Int
  | 0, _ => 0
  | n + 1, x => rsum f s n x + f (x - n * s)
mutual
def seI : Ins → Int → Int
  | .step _, _ => 0
  | .turn c, x => if x = 0 then c else 0
  | .rep n b, x => rsum (fun y => seP b y) (shP b) n.toNat x
def seP : List Ins → Int → Int
  | [], _ => 0
  | i :: r, x => seI i x + seP r (x - shI i)
end
/-! the counts of repeats are from 0 on, and not too large to be run -/
mutual
def NI : Ins → Prop
  | .step _ => True
  | .turn _ => True
  | .rep n b => 0 ≤ n ∧ NP b
def NP : List Ins → Prop
  | [] => True
  | i :: r => NI i ∧ NP r
end
mutual
def unI : Ins → List Ins
  | .step c => [.step c]
  | .turn c => [.turn c]
  | .rep n b => (List.replicate n.toNat (unP b)).flatten
def unP : List Ins → List Ins
  | [] => []
  | i :: r => unI i ++ unP r
end
theorem seP_nil (x : Int) : seP [] x = 0 := by rw [seP]
theorem seP_cons (i : Ins) (r : List Ins) (x : Int) : seP (i :: r) x = seI i x + seP r (x - shI i) := by rw [seP]
theorem seP_app : ∀ (a b : List Ins) (x : Int), seP (a ++ b) x = seP a x + seP b (x - shP a)
  | [], b, x => by rw [List.nil_append, seP_nil, shP_nil, Int.zero_add, Int.sub_zero]
  | i :: r, b, x => by
    rw [List.cons_append, seP_cons, seP_cons, seP_app r b, shP_cons, Int.add_assoc]
    congr 2
    congr 1
    omega
theorem rsum_congr {f g : Int → Int} {s : Int} (h : ∀ x, f x = g x) : ∀ (n : Nat) (x : Int), rsum f s n x = rsum g s n x
  | 0, _ => rfl
  | n + 1, x => by
    show rsum f s n x + f _ = rsum g s n x + g _
    rw [rsum_congr h n x, h]
theorem NP_cons (i : Ins) (r : List Ins) : NP (i :: r) = (NI i ∧ NP r) := by rw [NP]
theorem NP_app : ∀ (a b : List Ins), NP a → NP b → NP (a ++ b)
  | [], b, _, h => h
  | i :: r, b, h, h2 => by
    rw [List.cons_append, NP_cons]
    rw [NP_cons] at h
    exact ⟨h.1, NP_app r b h.2 h2⟩
theorem NP_mem : ∀ {b : List Ins} {i : Ins}, NP b → i ∈ b → NI i
  | [], _, _, h => absurd h List.not_mem_nil
  | j :: r, i, w, h => by
    rw [NP_cons] at w
    rcases List.mem_cons.mp h with e | e
    · rw [e]; exact w.1
    · exact NP_mem w.2 e
theorem unP_cons (i : Ins) (r : List Ins) : unP (i :: r) = unI i ++ unP r := by rw [unP]
theorem unP_app : ∀ (a b : List Ins), unP (a ++ b) = unP a ++ unP b
  | [], b => by rw [show unP [] = [] by unfold unP; rfl]; rfl
  | i :: r, b => by rw [List.cons_append, unP_cons, unP_cons, unP_app r b, List.append_assoc]
theorem sh_flat (u : List Ins) : ∀ n : Nat, shP (List.replicate n u).flatten = n * shP u
  | 0 => by
    rw [List.replicate_zero, List.flatten_nil, shP_nil]
    omega
  | n + 1 => by
    rw [List.replicate_succ, List.flatten_cons, shP_app, sh_flat u n, Int.natCast_succ, Int.add_mul]
    omega
theorem ex_flat (u : List Ins) : ∀ n : Nat, exP (List.replicate n u).flatten = n * exP u
  | 0 => by
    rw [List.replicate_zero, List.flatten_nil, exP_nil]
    omega
  | n + 1 => by
    rw [List.replicate_succ, List.flatten_cons, exP_app, ex_flat u n, Int.natCast_succ, Int.add_mul]
    omega
theorem se_flat (u : List Ins) : ∀ (n : Nat) (x : Int), seP (List.replicate n u).flatten x = rsum (fun y => seP u y) (shP u) n x
  | 0, x => by
    rw [List.replicate_zero, List.flatten_nil, seP_nil]
    rfl
  | n + 1, x => by
    rw [List.replicate_succ', List.flatten_append, seP_app, se_flat u n x, sh_flat, List.flatten_cons, List.flatten_nil, List.append_nil]
    rfl
/-! the same effect, written out -/
mutual
theorem unI_ok : ∀ (i : Ins), NI i → shP (unI i) = shI i ∧ exP (unI i) = exI i ∧ ∀ x, seP (unI i) x = seI i x
  | .step c, _ => by
    rw [unI]
    refine ⟨by rw [shP_cons, shP_nil, Int.add_zero], by rw [exP_cons, exP_nil, Int.add_zero], fun x => by rw [seP_cons, seP_nil, Int.add_zero]⟩
  | .turn c, _ => by
    rw [unI]
    refine ⟨by rw [shP_cons, shP_nil, Int.add_zero], by rw [exP_cons, exP_nil, Int.add_zero], fun x => by rw [seP_cons, seP_nil, Int.add_zero]⟩
  | .rep n b, h => by
    rw [NI] at h
    obtain ⟨h1, h2, h3⟩ := unP_ok b h.2
    have hn : ((n.toNat : Nat) : Int) = n := Int.toNat_of_nonneg h.1
    rw [unI]
    refine ⟨by rw [sh_flat, h1, shI, hn], by rw [ex_flat, h2, exI, hn], fun x => ?_⟩
    rw [se_flat, seI, h1]
    exact rsum_congr h3 _ _
theorem unP_ok : ∀ (b : List Ins), NP b → shP (unP b) = shP b ∧ exP (unP b) = exP b ∧ ∀ x, seP (unP b) x = seP b x
  | [], _ => by
    rw [show unP [] = [] by unfold unP; rfl]
    exact ⟨rfl, rfl, fun _ => rfl⟩
  | i :: r, h => by
    rw [NP_cons] at h
    obtain ⟨a1, a2, a3⟩ := unI_ok i h.1
    obtain ⟨b1, b2, b3⟩ := unP_ok r h.2
    rw [unP_cons]
    exact ⟨by rw [shP_app, a1, b1, shP_cons], by rw [exP_app, a2, b2, exP_cons], fun x => by rw [seP_app, a3, b3, a1, seP_cons]⟩
end
mutual
theorem unI_flat : ∀ (i : Ins), ∀ j ∈ unI i, isFlat j
  | .step c, j, h => by
    rw [unI] at h
    cases List.mem_singleton.mp h
    trivial
  | .turn c, j, h => by
    rw [unI] at h
    cases List.mem_singleton.mp h
    trivial
  | .rep n b, j, h => by
    rw [unI] at h
    obtain ⟨l, hl, hj⟩ := List.mem_flatten.mp h
    rw [(List.mem_replicate.mp hl).2] at hj
    exact unP_flat b j hj
theorem unP_flat : ∀ (b : List Ins), ∀ j ∈ unP b, isFlat j
  | [], j, h => by
    rw [show unP [] = [] by unfold unP; rfl] at h
    exact absurd h List.not_mem_nil
  | i :: r, j, h => by
    rw [unP_cons] at h
    rcases List.mem_append.mp h with z | z
    · exact unI_flat i j z
    · exact unP_flat r j z
end
theorem flat_ex : ∀ (u : List Ins), (∀ j ∈ u, isFlat j) → exP u = (u.length : Int)
  | [], _ => by rw [exP_nil]; rfl
  | i :: r, h => by
    have h1 := h i List.mem_cons_self
    have h2 : exI i = 1 := by cases i <;> first | exact absurd h1 id | (rw [exI])
    rw [exP_cons, h2, flat_ex r fun j hj => h j (List.mem_cons_of_mem _ hj), List.length_cons]
    omega
theorem un_len {b : List Ins} (h : NP b) : ((unP b).length : Int) = exP b := by
  rw [← flat_ex _ (unP_flat b), (unP_ok b h).2.1]
mutual
theorem exI_nn : ∀ (i : Ins), NI i → 0 ≤ exI i
  | .step c, _ => by rw [exI]; decide
  | .turn c, _ => by rw [exI]; decide
  | .rep n b, h => by
    rw [NI] at h
    rw [exI]
    exact Int.mul_nonneg h.1 (exP_nn b h.2)
theorem exP_nn : ∀ (b : List Ins), NP b → 0 ≤ exP b
  | [], _ => by rw [exP_nil]; exact Int.le_refl _
  | i :: r, h => by
    rw [NP_cons] at h
    have := exI_nn i h.1
    have := exP_nn r h.2
    rw [exP_cons]
    omega
end
theorem exP_mem : ∀ {b : List Ins} {i : Ins}, NP b → i ∈ b → exI i ≤ exP b
  | [], _, _, h => absurd h List.not_mem_nil
  | j :: r, i, w, h => by
    rw [NP_cons] at w
    have h1 := exI_nn j w.1
    have h2 := exP_nn r w.2
    rw [exP_cons]
    rcases List.mem_cons.mp h with e | e
    · rw [e]; omega
    · have := exP_mem w.2 e; omega
theorem exP_take : ∀ (b : List Ins) (j : Nat), NP b → exP (b.take j) ≤ exP b
  | [], _, _ => by rw [List.take_nil]; exact Int.le_refl _
  | i :: r, 0, h => by
    rw [List.take_zero, exP_nil]
    exact exP_nn _ h
  | i :: r, j + 1, h => by
    rw [NP_cons] at h
    rw [List.take_succ_cons, exP_cons, exP_cons]
    have := exP_take r j h.2
    omega
theorem seP_snoc {b : List Ins} {j : Nat} {i : Ins} (h : b[j]? = some i) (x : Int) : seP (b.take (j + 1)) x = seP (b.take j) x + seI i (x - shP (b.take j)) := by
  rw [take_snoc h, seP_app, seP_cons, seP_nil, Int.add_zero]
theorem unP_snoc {b : List Ins} {j : Nat} {i : Ins} (h : b[j]? = some i) : unP (b.take (j + 1)) = unP (b.take j) ++ unI i := by
  rw [take_snoc h, unP_app, unP_cons, show unP [] = [] by unfold unP; rfl, List.append_nil]
theorem NP_take : ∀ {b : List Ins} (j : Nat), NP b → NP (b.take j)
  | [], _, _ => by rw [List.take_nil, NP]; trivial
  | i :: r, 0, h => by rw [List.take_zero, NP]; trivial
  | i :: r, j + 1, h => by
    rw [NP_cons] at h
    rw [List.take_succ_cons, NP_cons]
    exact ⟨h.1, NP_take j h.2⟩
/-! rounds that may be run -/
mutual
def RI (N : Int) : Ins → Prop
  | .step _ => True
  | .turn _ => True
  | .rep n b => n ≤ N ∧ RP N b
def RP (N : Int) : List Ins → Prop
  | [] => True
  | i :: r => RI N i ∧ RP N r
end
theorem RP_cons (N : Int) (i : Ins) (r : List Ins) : RP N (i :: r) = (RI N i ∧ RP N r) := by rw [RP]
theorem RP_mem {N : Int} : ∀ {b : List Ins} {i : Ins}, RP N b → i ∈ b → RI N i
  | [], _, _, h => absurd h List.not_mem_nil
  | j :: r, i, w, h => by
    rw [RP_cons] at w
    rcases List.mem_cons.mp h with e | e
    · rw [e]; exact w.1
    · exact RP_mem w.2 e
theorem RP_app {N : Int} : ∀ (a b : List Ins), RP N a → RP N b → RP N (a ++ b)
  | [], b, _, h => h
  | i :: r, b, h, h2 => by
    rw [List.cons_append, RP_cons]
    rw [RP_cons] at h
    exact ⟨h.1, RP_app r b h.2 h2⟩
/-! ### how far a run goes -/
mutual
def trI : Ins → Int
  | .step c => (c.natAbs : Int)
  | .turn _ => 0
  | .rep n b => (n.natAbs : Int) * trP b
def trP : List Ins → Int
  | [] => 0
  | i :: r => trI i + trP r
end
theorem trP_nil : trP [] = 0 := by unfold trP; rfl
theorem trP_cons (i : Ins) (r : List Ins) : trP (i :: r) = trI i + trP r := by rw [trP]
mutual
theorem trI_nn : ∀ i : Ins, 0 ≤ trI i
  | .step c => by rw [trI]; omega
  | .turn c => by rw [trI]; omega
  | .rep n b => by
    rw [trI]
    exact Int.mul_nonneg (by omega) (trP_nn b)
theorem trP_nn : ∀ b : List Ins, 0 ≤ trP b
  | [] => by rw [trP_nil]; omega
  | i :: r => by
    have := trI_nn i
    have := trP_nn r
    rw [trP_cons]
    omega
end
mutual
theorem shI_tr : ∀ i : Ins, ((shI i).natAbs : Int) ≤ trI i
  | .step c => by rw [shI, trI]; omega
  | .turn c => by rw [shI, trI]; omega
  | .rep n b => by
    rw [shI, trI, Int.natAbs_mul, Int.natCast_mul]
    exact Int.mul_le_mul_of_nonneg_left (shP_tr b) (by omega)
theorem shP_tr : ∀ b : List Ins, ((shP b).natAbs : Int) ≤ trP b
  | [] => by rw [shP_nil, trP_nil]; decide
  | i :: r => by
    have := shI_tr i
    have := shP_tr r
    rw [shP_cons, trP_cons]
    omega
end
theorem rsum_far {f : Int → Int} {s t : Int} (hs : (s.natAbs : Int) ≤ t) (hf : ∀ x : Int, t < (x.natAbs : Int) → f x = 0) : ∀ (n : Nat) (x : Int), (n : Int) * t < (x.natAbs : Int) → rsum f s n x = 0
  | 0, _, _ => rfl
  | n + 1, x, h => by
    rw [Int.natCast_succ, Int.add_mul, Int.one_mul] at h
    have h0 : 0 ≤ t := by omega
    have h1 : ((n * s).natAbs : Int) ≤ (n : Int) * t := by
      rw [Int.natAbs_mul, Int.natCast_mul]
      exact Int.mul_le_mul_of_nonneg_left hs (by omega)
    show rsum f s n x + f (x - n * s) = 0
    rw [rsum_far hs hf n x (by omega), hf _ (by omega)]
    rfl
mutual
theorem seI_far : ∀ (i : Ins) (x : Int), NI i → trI i < (x.natAbs : Int) → seI i x = 0
  | .step c, x, _, _ => by rw [seI]
  | .turn c, x, _, h => by
    rw [trI] at h
    rw [seI, if_neg (by omega)]
  | .rep n b, x, hn, h => by
    rw [NI] at hn
    rw [trI] at h
    rw [seI]
    refine rsum_far (t := trP b) (shP_tr b) (fun y hy => seP_far b y hn.2 hy) _ _ ?_
    rw [Int.toNat_of_nonneg hn.1]
    have e : ((n.natAbs : Nat) : Int) = n := by omega
    rw [e] at h
    exact h
theorem seP_far : ∀ (b : List Ins) (x : Int), NP b → trP b < (x.natAbs : Int) → seP b x = 0
  | [], x, _, _ => seP_nil x
  | i :: r, x, hn, h => by
    rw [NP_cons] at hn
    rw [trP_cons] at h
    have := shI_tr i
    have := trP_nn r
    have := trI_nn i
    rw [seP_cons, seI_far i x hn.1 (by omega), seP_far r _ hn.2 (by omega)]
    rfl
end
theorem tr_big : ∀ (k : Nat) (b : List Ins), dpP b ≤ k → WP b → b.length ≤ 1024 → (trP b).natAbs ≤ 2 ^ (110 * (k + 1))
  | k, b, hd, hw, hl => by
    have hI : ∀ i ∈ b, (trI i).natAbs ≤ 2 ^ (110 * k + 100) := fun i hi => by
      have wi := WP_mem hw hi
      have di := Nat.le_trans (dpP_mem hi) hd
      cases i with
      | step c =>
        rw [trI]
        rw [WI] at wi
        exact Nat.le_trans (show ((c.natAbs : Int)).natAbs ≤ 2 ^ 100 by omega) (pow_le2 (by omega))
      | turn c =>
        rw [trI]
        exact Nat.zero_le _
      | rep n bb =>
        rw [trI]
        rw [WI] at wi
        rw [dpI] at di
        have := tr_big (k - 1) bb (by omega) wi.2.2 wi.2.1
        rw [Int.natAbs_mul]
        have e : 110 * (k - 1 + 1) = 110 * k := by omega
        rw [e] at this
        have h3 := Nat.mul_le_mul (show ((n.natAbs : Int)).natAbs ≤ 2 ^ 100 by omega) this
        rw [← Nat.pow_add] at h3
        rw [Nat.add_comm]
        exact h3
    have h := bigs trI trP trP_nil trP_cons _ b hI
    have h2 : 2 ^ (110 * k + 100) * b.length ≤ 2 ^ (110 * k + 100) * 2 ^ 10 := Nat.mul_le_mul_left _ hl
    rw [← Nat.pow_add] at h2
    exact Nat.le_trans h h2
termination_by k => k
decreasing_by
  rw [dpI] at di
  omega
/-- the dials that a run turns may be shown -/
theorem se_sm {q : Int} {b : List Ins} {g : Pol} (N : Nf q g (seP b)) (hq : q ≤ 97) (hd : dpP b ≤ 2) (hw : WP b) (hl : b.length ≤ 1024) (hn : NP b) (hg : g.length ≤ 50000) : Sm g := by
  refine ⟨hg, fun t ht => ⟨N.subP (R := fun e => e.natAbs < 10 ^ 100) (fun e he => ?_) t ht, ?_⟩⟩
  · rw [seP_far b e hn ?_]
    · rfl
    · have h1 := tr_big 2 b hd hw hl
      have h2 : 2 ^ (110 * (2 + 1)) < 10 ^ 100 := by decide +kernel
      have h3 := trP_nn b
      omega
  · have := N.rng t ht
    exact Nat.lt_of_le_of_lt (show t.2.natAbs ≤ 97 by omega) (by decide +kernel)
/-! ### drawn programs, with what their repeats may do -/
structure PrR (b : List Ins) (k N : Nat) (R : Int) : Prop where
  ok : PrOk b k N
  nn : NP b
  rp : RP R b
theorem flat_np : ∀ {b : List Ins} {R : Int}, (∀ i ∈ b, isFlat i) → NP b ∧ RP R b
  | [], _, _ => by rw [NP, RP]; exact ⟨trivial, trivial⟩
  | i :: r, R, h => by
    have h1 := h i List.mem_cons_self
    obtain ⟨a, c⟩ := flat_np (b := r) (R := R) fun j hj => h j (List.mem_cons_of_mem _ hj)
    rw [NP_cons, RP_cons]
    cases i with
    | step _ => rw [NI, RI]; exact ⟨⟨trivial, a⟩, trivial, c⟩
    | turn _ => rw [NI, RI]; exact ⟨⟨trivial, a⟩, trivial, c⟩
    | rep _ _ => exact absurd h1 id
theorem Flat.okR {b : List Ins} {N R : Nat} (h : Flat b N R) (hR : R ≤ 2 ^ 100) (M : Int) : PrR b 0 N M := ⟨h.ok hR, (flat_np (R := M) h.flat).1, (flat_np h.flat).2⟩
theorem PrR.app {b c : List Ins} {k j N M : Nat} {R : Int} (h : PrR b k N R) (h2 : PrR c j M R) : PrR (b ++ c) (max k j) (N + M) R := ⟨h.ok.app h2.ok, NP_app _ _ h.nn h2.nn, RP_app _ _ h.rp h2.rp⟩
theorem PrR.rep {b : List Ins} {k N : Nat} {R : Int} (h : PrR b k N R) (hN : N ≤ 1024) {n : Int} (hn : n.natAbs ≤ 2 ^ 100) (h0 : 0 ≤ n) (h9 : n ≤ R) : PrR [.rep n b] (k + 1) (N + 1) R := by
  refine ⟨h.ok.rep hN hn, ?_, ?_⟩
  · rw [NP_cons, NI, NP]
    exact ⟨⟨h0, h.nn⟩, trivial⟩
  · rw [RP_cons, RI, RP]
    exact ⟨⟨h9, h.rp⟩, trivial⟩
theorem PrR.up {b : List Ins} {k N k' N' : Nat} {R : Int} (h : PrR b k N R) (a : k ≤ k') (c : N ≤ N') : PrR b k' N' R := ⟨h.ok.up a c, h.nn, h.rp⟩
mutual
theorem RI_up {R R' : Int} (h : R ≤ R') : ∀ (i : Ins), RI R i → RI R' i
  | .step _, _ => by rw [RI]; trivial
  | .turn _, _ => by rw [RI]; trivial
  | .rep n b, z => by
    rw [RI] at z ⊢
    exact ⟨Int.le_trans z.1 h, RP_up h b z.2⟩
theorem RP_up {R R' : Int} (h : R ≤ R') : ∀ (b : List Ins), RP R b → RP R' b
  | [], _ => by rw [RP]; trivial
  | i :: r, z => by
    rw [RP_cons] at z ⊢
    exact ⟨RI_up h i z.1, RP_up h r z.2⟩
end
/-- at most so many executed: instructions times the rounds around them -/
theorem ex_bd {R : Nat} (hR : 1 ≤ R) : ∀ (k : Nat) (b : List Ins), dpP b ≤ k → NP b → RP R b → exP b ≤ ((cnP b * R ^ k : Nat) : Int)
  | k, [], _, _, _ => by rw [exP_nil]; omega
  | k, i :: r, hd, hn, hr => by
    rw [dpP_cons] at hd
    rw [NP_cons] at hn
    rw [RP_cons] at hr
    have h2 := ex_bd hR k r (by omega) hn.2 hr.2
    have hp : 1 ≤ R ^ k := Nat.one_le_pow _ _ hR
    have h1 : exI i ≤ ((cnI i * R ^ k : Nat) : Int) := by
      cases i with
      | step c =>
        rw [exI, cnI]
        omega
      | turn c =>
        rw [exI, cnI]
        omega
      | rep n bb =>
        have hd1 : dpP bb + 1 ≤ k := by
          have := hd
          rw [dpI] at this
          omega
        have hn1 := hn.1
        have hr1 := hr.1
        rw [NI] at hn1
        rw [RI] at hr1
        have h3 := ex_bd hR (k - 1) bb (by omega) hn1.2 hr1.2
        rw [exI, cnI]
        have e : R ^ k = R * R ^ (k - 1) := by
          rw [show k = k - 1 + 1 by omega, Nat.pow_succ, Nat.mul_comm]
          rfl
        have h4 : n * exP bb ≤ (R : Int) * ((cnP bb * R ^ (k - 1) : Nat) : Int) := Int.le_trans (Int.mul_le_mul_of_nonneg_right hr1.1 (exP_nn bb hn1.2)) (Int.mul_le_mul_of_nonneg_left h3 (by omega))
        have e2 : (R : Int) * ((cnP bb * R ^ (k - 1) : Nat) : Int) = ((cnP bb * R ^ k : Nat) : Int) := by
          rw [e, ← Int.natCast_mul]
          congr 1
          rw [← Nat.mul_assoc, ← Nat.mul_assoc, Nat.mul_comm R]
        rw [e2] at h4
        have : cnP bb * R ^ k ≤ (cnP bb + 1) * R ^ k := Nat.mul_le_mul_right _ (Nat.le_succ _)
        omega
    rw [exP_cons, cnP_cons, Nat.add_mul]
    omega
termination_by k b => (k, b.length)
/-! ### promises -/
def sp__law_programR (K : PySem.W.Frag) : Sp := fun vs H Q _ => ∃ (p c : Addr) (most reach rounds : Int) (n : Nat), vs = [.ref p, .int most, .int reach, .int rounds] ∧ 0 ≤ most ∧ most ≤ 50 ∧ 0 ≤ reach ∧ reach ≤ 10 ^ 30 ∧ 0 ≤ rounds ∧ rounds ≤ 10 ^ 30 ∧ PenAt H p c n ∧ n < 2 ^ 38 ∧
  ∀ F xs b H', Kp p H H' → PenAt H' p c (n + 2000) → H' F = some (.lst xs) → IVs K H' xs b → PrR b 2 (13 * most.toNat + 6) rounds → Q (.ref F) H'
def sp_unrolled (K : PySem.W.Frag) (k : Nat) : Sp := fun vs H Q _ => ∃ (v : V) (b : List Ins), vs = [v] ∧ PV K H v b ∧ dpP b < k ∧ NP b ∧ exP b ≤ 10000 ∧
  ∀ D ys H', Same H H' → H D = none → H' D = some (.lst ys) → FIs K H' ys (unP b) → Q (.ref D) H'
def sp_effect_of (K : PySem.W.Frag) : Sp := fun vs H Q _ => ∃ (p : Int) (v : V) (b : List Ins), vs = [.int p, v] ∧ 0 < p ∧ PV K H v b ∧ dpP b < 3 ∧ WP b ∧ b.length ≤ 1024 ∧ NP b ∧ exP b ≤ 10000 ∧
  ∀ u H' g, Same H H' → TEff K H' u g (shP b) → Nf p g (seP b) → g.length ≤ 10000 → Q u H'
/-- a dict of dials: distinct places, worth F modulo p -/
structure Dials (p : Int) (m : Pol) (F : Int → Int) : Prop where
  nd : (m.map (·.1)).Nodup
  wo : ∀ x, cf m x = F x % p
def sp__law_run (K : PySem.W.Frag) (k : Nat) : Sp := fun vs H Q _ => ∃ (p : Int) (v : V) (pl : Int) (b : List Ins), vs = [.int p, v, .int pl] ∧ 0 < p ∧ PV K H v b ∧ dpP b < k ∧ NP b ∧ RP 1000000 b ∧ exP b ≤ 100000 ∧
  ∀ t d H' m, Same H H' → H' t = some (.tup [.ref d, .int (pl + shP b)]) → H d = none → H' d = some (.dK (kvOf m)) → Dials p m (fun x => seP b (x - pl)) → (m.length : Int) ≤ exP b → Q (.ref t) H'
def sp__law_ran (K : PySem.W.Frag) : Sp := fun vs H Q _ => ∃ (p : Int) (v : V) (b : List Ins), vs = [.int p, v] ∧ 0 < p ∧ PV K H v b ∧ dpP b < 3 ∧ NP b ∧ RP 1000000 b ∧ exP b ≤ 100000 ∧
  ∀ u H' g, Same H H' → TEff K H' u g (shP b) → Nf p g (seP b) → Q u H'
end DR
namespace DR
open PySem PySem.Spec PyProof.Rows L2
section
variable {prog : Program} {w : World} {A : Around} {E : Value → Shared → Prop} {s : Shared}
/-- the items of a tuple, gathered: the heap is told -/
abbrev gathered (h : Heap) (arr : Array Value) : Heap := (h.push { cls := .type "list", data := .seq ([] : List Value).toArray }).update h.objs.size (Obj.mapSeq (· ++ arr))
theorem gathered_size (h : Heap) (arr : Array Value) : (gathered h arr).objs.size = h.objs.size + 1 := by
  show (Heap.update _ _ _).objs.size = _
  simp only [Heap.size_update, size_push']
theorem gathered_old {h : Heap} {arr : Array Value} {b : Addr} {u : Obj} (e : h.get? b = some u) : (gathered h arr).get? b = some u := by
  have := Nat.ne_of_gt (Heap.lt_size e)
  exact (Heap.get?_update_other _ _ this).trans (Heap.get?_push_of_some _ e)
theorem collect_tup {t : Addr} {arr : Array Value} {R : List Value → Shared → Prop} (ht : IsTup s.heap t arr) (hz : arr.size ≤ sizeLine) (k : R arr.toList { s with heap := gathered s.heap arr }) : wpAny (model prog w) A (collect (.ref t)) R E s := by
  obtain ⟨ob, h1, h2, c, h3⟩ := ht
  have hN : (s.heap.push { cls := .type "list", data := .seq ([] : List Value).toArray }).get? s.heap.objs.size = some { cls := .type "list", data := .seq #[] 0 } := Heap.get?_push_size _ rfl
  have hN2 := Heap.get?_update_self (Obj.mapSeq (· ++ arr)) hN rfl
  unfold collect
  have plain := Around.under_plainId (A := A) PySem.F.plain_proto_collect
  refine wpAny_bind (wpAny_runValue (codeAny_builtin PySem.F.entry_proto_collect ?_))
  rw [plain _]
  refine wpAny_bind (m := newList []) (wpAny_newObj_type (wpAny_pure ⟨plainId_quiet PySem.F.plain_list_iadd _, codeAny_builtin PySem.F.entry_list_iadd ?_⟩))
  rw [Around.under_plainId PySem.F.plain_list_iadd _]
  have last : ∀ s2 : Shared, s2 = { s with heap := gathered s.heap arr } → wpAny (model prog w) A (do match (← load s.heap.objs.size).data with | Data.seq xs _ => pure xs.toList | _ => unsupported "internal:collect") R E s2 := by
    rintro s2 rfl
    refine wpAny_bind (wpAny_load hN2 (wpAny_pure ?_))
    have e : ((#[] : Array Value) ++ arr).toList = arr.toList := by simp
    show R ((#[] : Array Value) ++ arr).toList _
    rw [e]
    exact k
  have ext := wpAny_extend_seq (prog := prog) (w := w) (A := A) (R := fun r s' => r = .ok (.ret (.ref s.heap.objs.size)) ∧ s' = { s with heap := gathered s.heap arr }) (s := { s with heap := s.heap.push { cls := .type "list", data := .seq ([] : List Value).toArray } }) _ t (.ref s.heap.objs.size) 0 (.inr rfl) hN (Heap.get?_push_of_some _ h1) h2 h3 ⟨rfl, rfl⟩ hz
  refine wpAny_mono ext (fun fin s' z => ?_) fun e s' z => absurd z.1 (by simp)
  cases fin with
  | done f =>
    obtain ⟨q, e2⟩ := z
    cases q
    exact last _ e2
  | again c' => exact ⟨z.1, codeAny_mono z.2 fun r s2 y => by
      obtain ⟨q, e2⟩ := y
      subst q
      exact last _ e2⟩
/-- sorted of a tuple of pairs: a new list of them in some order -/
theorem sorted_tup {t : Addr} {pairs : List Value} {after : Value → Shared → Prop} (there : IsTup s.heap t pairs.toArray) (room : pairs.length ≤ sizeLine) (each : ∀ v ∈ pairs, ∃ x y, Srt.IsPair s.heap v x y)
    (next : ∀ (g : Heap) (p : Addr) (out : List Value) (stamp : Nat), out.Perm pairs → (∀ b u, s.heap.get? b = some u → g.get? b = some u) → s.heap.objs.size ≤ p → g.get? p = some (seqObj "list" out.toArray stamp) → after (.ref p) { s with heap := g }) :
    wpAny (model prog w) A (call (.builtin "sorted") [.ref t]) after E s := by
  have fit : pairs.toArray.size ≤ sizeLine := by rw [List.size_toArray]; exact room
  refine Calls.call_function_entry kind_sorted plain_sorted entry_sorted (args_sorted1 _) ?_
  unfold Builtin.«sorted»
  refine wpAny_bind (m := checkCount "sorted" 1 1 _) (wpAny_pure (wpAny_bind (collect_tup there fit (wpAny_bind (wpAny_newList ?_ room)))))
  have stay : ∀ b u, s.heap.get? b = some u → (gathered s.heap pairs.toArray).get? b = some u := fun b u old => gathered_old old
  have above : s.heap.objs.size ≤ (gathered s.heap pairs.toArray).objs.size := by rw [gathered_size]; omega
  generalize gathered s.heap pairs.toArray = g at stay above
  have laid : (g.push (seqObj "list" pairs.toArray 0)).get? g.objs.size = some (seqObj "list" pairs.toArray 0) := Heap.get?_push_size _ rfl
  have keep : ∀ b u, s.heap.get? b = some u → (g.push (seqObj "list" pairs.toArray 0)).get? b = some u := fun b u old => Heap.get?_push_of_some _ (stay b u old)
  have able := fun two : 0 < pairs.length => Srt.pairs_sortable (prog := prog) (w := w) (A := A.in1.in1) (s := { s with heap := g.push (seqObj "list" pairs.toArray 0) }) (a := g.objs.size) (vs := pairs) two
    (fun v hv => by
      obtain ⟨x, y, p⟩ := each v hv
      exact ⟨x, y, p.keeps fun b u old _ => keep b u old⟩)
    (fun u hu => by
      have q : some (seqObj "list" pairs.toArray 0) = some u := laid.symm.trans hu
      cases q
      exact fun c => absurd (Value.type.inj c) (by decide))
  refine wpAny_bind (wpAny_holding (wpAny_call_entry slot_list_sort ⟨_, laid, rfl⟩ entry_list_sort (Srt.list_sort_any laid room (fun two => able (by omega)) fun out perm => ⟨_, rfl, ?_⟩) (args_list_sort _)))
  obtain ⟨stamp, found⟩ := sortedHeap_at (vs := pairs) (out := out.toArray) laid
  refine wpAny_pure ⟨_, rfl, next _ _ out stamp perm (fun b u old => ?_) above found⟩
  have below : b < g.objs.size := Heap.lt_size (stay b u old)
  have wider : b < (g.push (seqObj "list" pairs.toArray 0)).objs.size := by
    rw [size_push']
    exact Nat.lt_succ_of_lt below
  exact (sortedHeap_old (Nat.ne_of_lt below) wider).trans (keep b u old)
end
section
variable {X : Cx}
/-- sorted(t), t a tuple of pairs of ints: a new list of the same pairs, in some order -/
def rSortTP (K : PySem.W.Frag) : List V → Hp → VK → Prop := fun vs H Q => ∃ a xs, vs = [V.ref a] ∧ SqT K H a xs ∧ (∀ x ∈ xs, ∃ t i j, x = V.ref t ∧ SqT K H t [.int i, .int j]) ∧
  ∀ (ys : List V) (new : Addr), ys.Perm xs → H new = none → Q (.ref new) (upd H new (.lst ys))
theorem cr_sortTP : CallR X (.builtin "sorted") (rSortTP X.K) := by
  intro pins now σ G given us K I r told
  obtain ⟨t, xs, rfl, seen, pairs, told⟩ := told
  obtain ⟨items, alike, there, room⟩ := I.tuple seen
  have len := alike.length
  rw [Vals.ref1 r]
  obtain ⟨back, refs⟩ := refs_back alike fun x hx => by
    obtain ⟨q, _, _, e, _⟩ := pairs x hx
    exact ⟨q, e⟩
  refine sorted_tup there (by omega) (fun v hv => ?_) fun g p out stamp perm old above found => ?_
  · obtain ⟨q, rfl⟩ := refs v hv
    have hx : V.ref q ∈ xs := back ▸ List.mem_map.mpr ⟨_, hv, rfl⟩
    obtain ⟨_, i, j, e, two⟩ := pairs _ hx
    cases e
    obtain ⟨parts, like, ⟨u, hu, cls, n, data⟩, _⟩ := I.tuple two
    obtain ⟨_, _, rfl, ⟨m1, rfl⟩, ⟨m2, rfl⟩⟩ := vals2 like
    exact ⟨i, j, q, u, m1, m2, n, rfl, hu, cls, data⟩
  · have fit : (out.map backV).length ≤ sizeLine := by
      rw [List.length_map, perm.length_eq]
      omega
    have same : (out.map backV).Perm xs := back ▸ perm.map backV
    exact ⟨.ref p, _, I.laid (t' := now.toks) (o := .lst (out.map backV)) old above ⟨fit, out, stamp, vals_back fun u hu => refs u (perm.subset hu), found⟩, rfl, told _ p same (I.hok.fresh above)⟩
end
end DR
namespace DR
open PySem PySem.Spec PyProof.Rows L2
/-! ### sums over rounds -/
theorem rsum_zero (s : Int) : ∀ (n : Nat) (x : Int), rsum (fun _ => 0) s n x = 0
  | 0, _ => rfl
  | n + 1, x => by
    show rsum _ s n x + 0 = 0
    rw [rsum_zero s n x]
    rfl
theorem rsum_add (f g : Int → Int) (s : Int) : ∀ (n : Nat) (x : Int), rsum (fun y => f y + g y) s n x = rsum f s n x + rsum g s n x
  | 0, _ => rfl
  | n + 1, x => by
    show rsum _ s n x + (f _ + g _) = (rsum f s n x + f _) + (rsum g s n x + g _)
    rw [rsum_add f g s n x]
    omega
theorem rsum_mul (c : Int) (f : Int → Int) (s : Int) : ∀ (n : Nat) (x : Int), rsum (fun y => c * f y) s n x = c * rsum f s n x
  | 0, _ => by show 0 = c * 0; rw [Int.mul_zero]
  | n + 1, x => by
    show rsum _ s n x + c * f _ = c * (rsum f s n x + f _)
    rw [rsum_mul c f s n x, Int.mul_add]
theorem rsum_move (f : Int → Int) (s c : Int) : ∀ (n : Nat) (x : Int), rsum (fun y => f (y - c)) s n x = rsum f s n (x - c)
  | 0, _ => rfl
  | n + 1, x => by
    show rsum _ s n x + f (x - n * s - c) = rsum f s n (x - c) + f (x - c - n * s)
    rw [rsum_move f s c n x]
    congr 2
    omega
theorem rsum_swap (f : Int → Int) (a b : Int) (n : Nat) : ∀ (m : Nat) (x : Int), rsum (fun y => rsum f a n y) b m x = rsum (fun y => rsum f b m y) a n x
  | 0, x => by
    show 0 = rsum (fun _ => 0) a n x
    rw [rsum_zero]
  | m + 1, x => by
    show rsum _ b m x + rsum f a n (x - m * b) = rsum (fun y => rsum f b m y + f (y - m * b)) a n x
    rw [rsum_add (fun y => rsum f b m y) (fun y => f (y - m * b)), rsum_swap f a b n m x, rsum_move]
theorem rsum_const (f : Int → Int) : ∀ (n : Nat) (x : Int), rsum f 0 n x = n * f x
  | 0, x => by show 0 = _; simp
  | n + 1, x => by
    show rsum f 0 n x + f (x - n * 0) = _
    rw [rsum_const f n x, Int.mul_zero, Int.sub_zero, Int.natCast_succ, Int.add_mul, Int.one_mul]
/-- counted from the last one -/
theorem rsum_head (f : Int → Int) (s : Int) : ∀ (n : Nat) (x : Int), rsum f s (n + 1) x = f x + rsum f s n (x - s)
  | 0, x => by
    show 0 + f (x - ((0 : Nat) : Int) * s) = f x + 0
    rw [Int.zero_add, Int.add_zero]
    congr 1
    simp
  | n + 1, x => by
    show rsum f s (n + 1) x + f (x - ((n + 1 : Nat) : Int) * s) = f x + (rsum f s n (x - s) + f (x - s - n * s))
    rw [rsum_head f s n x, Int.add_assoc]
    congr 3
    rw [Int.natCast_succ, Int.add_mul, Int.one_mul]
    omega
theorem rsum_back (f : Int → Int) (s : Int) : ∀ (n : Nat) (x : Int), rsum f s (n + 1) x = rsum f (-s) (n + 1) (x - n * s)
  | 0, x => by
    show 0 + f _ = 0 + f _
    congr 2
    simp
  | n + 1, x => by
    rw [rsum_head f (-s) (n + 1)]
    show rsum f s (n + 1) x + f (x - ((n + 1 : Nat) : Int) * s) = _
    rw [rsum_back f s n x, Int.add_comm]
    congr 2
    rw [Int.natCast_succ, Int.add_mul, Int.one_mul]
    omega
/-! ### how many ways rounds reach a place -/
def wy : Pol → Int → Int
  | [], d => if d = 0 then 1 else 0
  | r :: rs, d => rsum (fun y => wy rs y) r.2 r.1.toNat d
theorem wy_nil (d : Int) : wy [] d = if d = 0 then 1 else 0 := rfl
theorem wy_cons (r : Int × Int) (rs : Pol) (d : Int) : wy (r :: rs) d = rsum (fun y => wy rs y) r.2 r.1.toNat d := rfl
theorem wy_perm {r r' : Pol} (h : r.Perm r') : ∀ d, wy r d = wy r' d := by
  induction h with
  | nil => exact fun _ => rfl
  | cons x _ ih =>
    intro d
    rw [wy_cons, wy_cons]
    exact rsum_congr ih _ _
  | swap x y l =>
    intro d
    rw [wy_cons, wy_cons, rsum_congr (g := fun z => rsum (fun w => wy l w) x.2 x.1.toNat z) (fun z => wy_cons x l z), rsum_congr (g := fun z => rsum (fun w => wy l w) y.2 y.1.toNat z) (fun z => wy_cons y l z) x.1.toNat d]
    exact rsum_swap (fun w => wy l w) x.2 y.2 x.1.toNat y.1.toNat d
  | trans _ _ h1 h2 => exact fun d => (h1 d).trans (h2 d)
theorem rsum_bd {f : Int → Int} {s : Int} {M : Int} (h : ∀ x, 0 ≤ f x ∧ f x ≤ M) : ∀ (n : Nat) (x : Int), 0 ≤ rsum f s n x ∧ rsum f s n x ≤ n * M
  | 0, x => by show 0 ≤ 0 ∧ 0 ≤ _; simp
  | n + 1, x => by
    have h1 := rsum_bd h (s := s) n x
    have h2 := h (x - n * s)
    show 0 ≤ rsum f s n x + f _ ∧ rsum f s n x + f _ ≤ _
    rw [Int.natCast_succ, Int.add_mul, Int.one_mul]
    omega
/-- a term: place, coefficient, rounds -/
structure Tm where
  pl : Int
  co : Int
  rs : Pol
def tv (t : Tm) (x : Int) : Int := t.co * wy t.rs (x - t.pl)
def tvs (ts : List Tm) (x : Int) : Int := (ts.map fun t => tv t x).sum
theorem tvs_nil (x : Int) : tvs [] x = 0 := rfl
theorem tvs_app (a b : List Tm) (x : Int) : tvs (a ++ b) x = tvs a x + tvs b x := by
  unfold tvs
  rw [List.map_append, List.sum_append]
/-- what a term becomes if it is repeated -/
structure Repd (t : Tm) (n s : Int) (t' : Tm) : Prop where
  val : ∀ x, tv t' x = rsum (fun y => tv t y) s n.toNat x
theorem repd_zero {t : Tm} {n : Int} (hn : 0 < n) : Repd t n 0 ⟨t.pl, t.co * n, t.rs⟩ := ⟨fun x => by
  rw [rsum_const, Int.toNat_of_nonneg (by omega)]
  show t.co * n * _ = n * (t.co * _)
  rw [← Int.mul_assoc, Int.mul_comm n]⟩
theorem repd_one {t : Tm} {s : Int} : Repd t 1 s ⟨t.pl, t.co * 1, t.rs⟩ := ⟨fun x => by
  show t.co * 1 * wy t.rs _ = 0 + tv t (x - ((0 : Nat) : Int) * s)
  rw [Int.mul_one, Int.zero_add]
  show t.co * wy t.rs (x - t.pl) = t.co * wy t.rs (x - ((0 : Nat) : Int) * s - t.pl)
  congr 2
  simp⟩
theorem repd_pos {t : Tm} {n s : Int} {rs : Pol} (hp : rs.Perm (t.rs ++ [(n, s)])) : Repd t n s ⟨t.pl, t.co, rs⟩ := ⟨fun x => by
  show t.co * wy rs (x - t.pl) = rsum (fun y => t.co * wy t.rs (y - t.pl)) s n.toNat x
  rw [rsum_mul, rsum_move (fun z => wy t.rs z), wy_perm (hp.trans List.perm_append_comm)]
  rfl⟩
theorem repd_neg {t : Tm} {n s : Int} {rs : Pol} (hn : 0 < n) (hp : rs.Perm (t.rs ++ [(n, -s)])) : Repd t n s ⟨t.pl + (n - 1) * s, t.co, rs⟩ := ⟨fun x => by
  show t.co * wy rs (x - (t.pl + (n - 1) * s)) = rsum (fun y => t.co * wy t.rs (y - t.pl)) s n.toNat x
  rw [rsum_mul, rsum_move (fun z => wy t.rs z), wy_perm (hp.trans List.perm_append_comm)]
  obtain ⟨m, hm⟩ : ∃ m : Nat, n.toNat = m + 1 := ⟨n.toNat - 1, by omega⟩
  have hm2 : n - 1 = (m : Int) := by omega
  rw [hm, rsum_back, hm2]
  show t.co * rsum _ (-s) n.toNat _ = _
  rw [hm]
  congr 2
  omega⟩
theorem tvs_rep {n s : Int} : ∀ {ts ts' : List Tm}, Paired (fun t t' => Repd t n s t') ts ts' → ∀ x, tvs ts' x = rsum (fun y => tvs ts y) s n.toNat x
  | [], [], _, x => by
    show 0 = rsum (fun _ => 0) s n.toNat x
    rw [rsum_zero]
  | t :: ts, t' :: ts', .cons h q, x => by
    show tv t' x + tvs ts' x = rsum (fun y => tv t y + tvs ts y) s n.toNat x
    rw [rsum_add (fun y => tv t y) (fun y => tvs ts y), h.val, tvs_rep q]
/-! ### the count of pairs -/
theorem div_step {P : Int} (hP : 0 < P) (u : Int) : u / P - (u - 1) / P = if P ∣ u then 1 else 0 := by
  by_cases h : P ∣ u
  · rw [if_pos h]
    obtain ⟨k, rfl⟩ := h
    have e1 : P * k / P = k := Int.mul_ediv_cancel_left k (by omega)
    have e2 : (P * k - 1) / P = k - 1 := by
      have : P * k - 1 = (P - 1) + P * (k - 1) := by rw [Int.mul_sub, Int.mul_one]; omega
      rw [this, Int.add_mul_ediv_left _ _ (by omega), Int.ediv_eq_zero_of_lt (by omega) (by omega)]
      omega
    rw [e1, e2]
    omega
  · rw [if_neg h]
    have h1 := Int.emod_add_mul_ediv u P
    have h2 := Int.emod_nonneg u (show P ≠ 0 by omega)
    have h3 := Int.emod_lt_of_pos u hP
    have h4 : u % P ≠ 0 := fun z => h (Int.dvd_of_emod_eq_zero z)
    generalize u % P = r at h1 h2 h3 h4
    have e : (u - 1) / P = u / P := by
      generalize u / P = q at h1
      have : u - 1 = (r - 1) + P * q := by omega
      rw [this, Int.add_mul_ediv_left _ _ (by omega), Int.ediv_eq_zero_of_lt (by omega) (by omega), Int.zero_add]
    omega
theorem div_mono {P : Int} (hP : 0 < P) {u v : Int} (h : u ≤ v) : u / P ≤ v / P := Int.ediv_le_ediv hP h
def cnt (L G P r : Int) : Nat → Int
  | 0 => 0
  | n + 1 => cnt L G P r n + if L ≤ (n : Int) ∧ (n : Int) ≤ G ∧ P ∣ (n : Int) - r then 1 else 0
theorem cnt_eq {L G P r : Int} (hP : 0 < P) : ∀ n : Nat, cnt L G P r n = max 0 ((min ((n : Int) - 1) G - r) / P - (max 0 L - 1 - r) / P)
  | 0 => by
    have h := div_mono hP (u := min (((0 : Nat) : Int) - 1) G - r) (v := max 0 L - 1 - r) (by omega)
    show (0 : Int) = _
    omega
  | n + 1 => by
    show cnt L G P r n + _ = _
    rw [cnt_eq hP n]
    by_cases h1 : (n : Int) < max 0 L
    · rw [if_neg (by omega)]
      have a := div_mono hP (u := min ((n : Int) - 1) G - r) (v := max 0 L - 1 - r) (by omega)
      have b := div_mono hP (u := min (((n + 1 : Nat) : Int) - 1) G - r) (v := max 0 L - 1 - r) (by omega)
      omega
    · by_cases h2 : (n : Int) ≤ G
      · have e1 : min (((n + 1 : Nat) : Int) - 1) G = (n : Int) := by omega
        have e2 : min ((n : Int) - 1) G = (n : Int) - 1 := by omega
        rw [e1, e2]
        have a := div_mono hP (u := max 0 L - 1 - r) (v := (n : Int) - 1 - r) (by omega)
        have b := div_mono hP (u := max 0 L - 1 - r) (v := (n : Int) - r) (by omega)
        have c := div_step hP ((n : Int) - r)
        rw [show (n : Int) - r - 1 = (n : Int) - 1 - r by omega] at c
        by_cases h3 : P ∣ (n : Int) - r
        · rw [if_pos ⟨by omega, h2, h3⟩]
          rw [if_pos h3] at c
          omega
        · rw [if_neg (fun z => h3 z.2.2)]
          rw [if_neg h3] at c
          omega
      · rw [if_neg (by omega)]
        have e1 : min (((n + 1 : Nat) : Int) - 1) G = G := by omega
        have e2 : min ((n : Int) - 1) G = G := by omega
        rw [e1, e2, Int.add_zero]
/-- one round -/
theorem wy_one {b : Int} (hb : 0 < b) : ∀ (m : Nat) (e : Int), rsum (fun y => if y = 0 then (1 : Int) else 0) b m e = if b ∣ e ∧ 0 ≤ e ∧ e < m * b then 1 else 0
  | 0, e => by
    rw [if_neg (by rintro ⟨_, h1, h2⟩; simp at h2; omega)]
    rfl
  | m + 1, e => by
    show rsum _ b m e + (if e - m * b = 0 then 1 else 0) = _
    rw [wy_one hb m e, Int.natCast_succ, Int.add_mul, Int.one_mul]
    have hmb : 0 ≤ (m : Int) * b := Int.mul_nonneg (by omega) (by omega)
    by_cases h : e - m * b = 0
    · have he : e = m * b := by omega
      rw [if_pos h, if_neg (by omega), if_pos ⟨by rw [he]; exact Int.dvd_mul_left _ _, by omega, by omega⟩]
      try rfl
    · rw [if_neg h, Int.add_zero]
      by_cases h2 : b ∣ e ∧ 0 ≤ e ∧ e < m * b
      · rw [if_pos h2, if_pos ⟨h2.1, h2.2.1, by omega⟩]
      · rw [if_neg h2, if_neg fun z => ?_]
        obtain ⟨k, rfl⟩ := z.1
        apply h2
        refine ⟨z.1, z.2.1, ?_⟩
        have h3 : b * k < b * ((m : Int) + 1) := by rw [Int.mul_add, Int.mul_one, Int.mul_comm b m]; exact z.2.2
        have h4 : k < (m : Int) + 1 := Int.lt_of_mul_lt_mul_left h3 (by omega)
        have h5 : k ≠ (m : Int) := fun q => h (by rw [q, Int.mul_comm]; omega)
        have h6 : b * k < b * (m : Int) := Int.mul_lt_mul_of_pos_left (by omega) hb
        rw [Int.mul_comm b m] at h6
        exact h6
/-- two rounds: the pairs of an equation -/
theorem wy_two {a b d g f : Int} {m : Nat} (ha : 0 < a) (hb : 0 < b) (hg : 0 < g) (ga : g ∣ a) (gb : g ∣ b) (hf : b ∣ a * f - g) (gd : g ∣ d) : ∀ n : Nat,
    rsum (fun y => rsum (fun z => if z = 0 then (1 : Int) else 0) b m y) a n d = cnt (-((b * ((m : Int) - 1) - d) / a)) (d / a) (b / g) (d / g * f % (b / g)) n
  | 0 => rfl
  | n + 1 => by
    show rsum _ a n d + rsum _ b m (d - n * a) = cnt _ _ _ _ n + _
    rw [wy_two ha hb hg ga gb hf gd n, wy_one hb]
    congr 1
    obtain ⟨a', rfl⟩ := ga
    obtain ⟨P, rfl⟩ := gb
    obtain ⟨d', rfl⟩ := gd
    have hP : 0 < P := Int.pos_of_mul_pos_right hb (by omega)
    have e1 : g * P / g = P := Int.mul_ediv_cancel_left P (by omega)
    have e2 : g * d' / g = d' := Int.mul_ediv_cancel_left d' (by omega)
    rw [e1, e2]
    -- a' * f is 1 modulo P
    have hf' : P ∣ a' * f - 1 := by
      obtain ⟨t, ht⟩ := hf
      refine ⟨t, ?_⟩
      have : g * (a' * f - 1) = g * (P * t) := by
        rw [Int.mul_sub, Int.mul_one, ← Int.mul_assoc, ← Int.mul_assoc]
        exact ht
      exact Int.eq_of_mul_eq_mul_left (by omega) this
    have key : (g * P ∣ g * d' - n * (g * a')) ↔ P ∣ (n : Int) - d' * f % P := by
      have r1 : P ∣ (n : Int) - d' * f % P ↔ P ∣ (n : Int) - d' * f := by
        have h := Int.emod_add_mul_ediv (d' * f) P
        constructor
        · rintro ⟨t, ht⟩
          exact ⟨t - d' * f / P, by rw [Int.mul_sub]; omega⟩
        · rintro ⟨t, ht⟩
          exact ⟨t + d' * f / P, by rw [Int.mul_add]; omega⟩
      rw [r1]
      obtain ⟨t, ht⟩ := hf'
      have e3 : g * d' - (n : Int) * (g * a') = g * (d' - n * a') := by
        rw [Int.mul_sub, ← Int.mul_assoc, ← Int.mul_assoc, Int.mul_comm (n : Int) g]
      rw [e3]
      constructor
      · rintro ⟨u, hu⟩
        rw [Int.mul_assoc] at hu
        have hu' : d' - n * a' = P * u := Int.eq_of_mul_eq_mul_left (by omega) hu
        -- n = n a' f - n P t ; d' f = (P u + n a') f
        refine ⟨-(u * f) - n * t, ?_⟩
        have h5 : d' = P * u + n * a' := by omega
        rw [h5, Int.add_mul, Int.mul_sub, Int.mul_neg]
        have h6 : (n : Int) * a' * f = n * (P * t) + n := by
          rw [Int.mul_assoc, show a' * f = P * t + 1 by omega, Int.mul_add, Int.mul_one]
        rw [h6, ← Int.mul_assoc P u f, ← Int.mul_assoc (n : Int) P t, ← Int.mul_assoc P (n : Int) t, Int.mul_comm P (n : Int)]
        omega
      · rintro ⟨u, hu⟩
        refine ⟨-(u * a') - d' * t, ?_⟩
        rw [Int.mul_assoc]
        congr 1
        have h5 : (n : Int) = P * u + d' * f := by omega
        have h6 : d' * f * a' = d' * (P * t) + d' := by
          rw [Int.mul_assoc, Int.mul_comm f a', show a' * f = P * t + 1 by omega, Int.mul_add, Int.mul_one]
        rw [h5, Int.add_mul, h6, Int.mul_sub, Int.mul_neg, ← Int.mul_assoc P u a', ← Int.mul_assoc d' P t, ← Int.mul_assoc P d' t, Int.mul_comm P d']
        omega
    have low : (0 ≤ g * d' - n * (g * a')) ↔ (n : Int) ≤ g * d' / (g * a') := by
      rw [Int.le_ediv_iff_mul_le ha]
      omega
    have high : g * P ∣ g * d' - n * (g * a') → ((g * d' - n * (g * a') < m * (g * P)) ↔ -((g * P * ((m : Int) - 1) - g * d') / (g * a')) ≤ (n : Int)) := by
      rintro ⟨u, hu⟩
      have h1 : (g * d' - n * (g * a') < m * (g * P)) ↔ g * d' - n * (g * a') ≤ g * P * ((m : Int) - 1) := by
        rw [hu, Int.mul_comm (m : Int)]
        constructor
        · intro h
          have := Int.lt_of_mul_lt_mul_left h (by omega)
          exact Int.mul_le_mul_of_nonneg_left (by omega) (by omega)
        · intro h
          have := Int.le_of_mul_le_mul_left h hb
          exact Int.mul_lt_mul_of_pos_left (by omega) hb
      rw [h1]
      have h2 : -(n : Int) ≤ (g * P * ((m : Int) - 1) - g * d') / (g * a') ↔ -(n : Int) * (g * a') ≤ g * P * ((m : Int) - 1) - g * d' := Int.le_ediv_iff_mul_le ha
      rw [Int.neg_mul] at h2
      constructor
      · intro h
        have := h2.mpr (by omega)
        omega
      · intro h
        have := h2.mp (by omega)
        omega
    by_cases hd : g * P ∣ g * d' - n * (g * a')
    · have hh := high hd
      by_cases hc : 0 ≤ g * d' - n * (g * a') ∧ g * d' - n * (g * a') < m * (g * P)
      · rw [if_pos ⟨hd, hc⟩, if_pos ⟨hh.mp hc.2, low.mp hc.1, key.mp hd⟩]
      · rw [if_neg (fun z => hc z.2), if_neg (fun z => hc ⟨low.mpr z.2.1, hh.mpr z.1⟩)]
    · rw [if_neg (fun z => hd z.1), if_neg (fun z => hd (key.mpr z.2.2))]
/-- no pair where the divisor does not divide -/
theorem wy_none {a b d g : Int} {m : Nat} (hb : 0 < b) (ga : g ∣ a) (gb : g ∣ b) (gd : ¬ g ∣ d) : ∀ n : Nat, rsum (fun y => rsum (fun z => if z = 0 then (1 : Int) else 0) b m y) a n d = 0
  | 0 => rfl
  | n + 1 => by
    show rsum _ a n d + rsum _ b m (d - n * a) = 0
    rw [wy_none hb ga gb gd n, wy_one hb, if_neg fun z => ?_]
    · rfl
    · obtain ⟨a', rfl⟩ := ga
      have h1 := Int.dvd_trans gb z.1
      have h2 : g ∣ (n : Int) * (g * a') := ⟨n * a', by rw [← Int.mul_assoc, ← Int.mul_assoc, Int.mul_comm (n : Int) g]⟩
      have h3 := Int.dvd_add h1 h2
      rw [Int.sub_add_cancel] at h3
      exact gd h3
end DR
namespace DR
open PySem PySem.Spec PyProof.Rows L2
theorem ediv_bd {d g : Int} (hg : 0 < g) : (d / g).natAbs ≤ d.natAbs := by
  have h1 := Int.emod_add_mul_ediv d g
  have h2 := Int.emod_nonneg d (show g ≠ 0 by omega)
  have h3 := Int.emod_lt_of_pos d hg
  by_cases h0 : 0 ≤ d
  · have a := Int.ediv_nonneg h0 (show 0 ≤ g by omega)
    have b := Int.ediv_le_self g h0
    omega
  · have a : d ≤ d / g := (Int.le_ediv_iff_mul_le hg).mpr (by
      have := Int.mul_le_mul_of_nonpos_left (show d ≤ 0 by omega) (show (1 : Int) ≤ g by omega)
      rw [Int.mul_one] at this
      exact this)
    have b : d / g < 0 := Int.ediv_neg_of_neg_of_pos (by omega) hg
    omega
def RsOk (rs : Pol) : Prop := ∀ r ∈ rs, 1 ≤ r.1 ∧ r.1 ≤ 2 ^ 100 ∧ 1 ≤ r.2 ∧ r.2 ≤ 2 ^ 331
def TermV (K : PySem.W.Frag) (H : Hp) (v : V) (t : Tm) : Prop := ∃ a x, v = .ref a ∧ SqT K H a [.int t.pl, .int t.co, x] ∧ TPol K H x t.rs
abbrev TVs (K : PySem.W.Frag) (H : Hp) : List V → List Tm → Prop := Paired (TermV K H)
section
variable {K : PySem.W.Frag} {H H' : Hp} {v x : V} {t : Tm} {xs ys : List V} {ts us : List Tm}
theorem TermV.tp (e : Tp H H') (h : TermV K H v t) : TermV K H' v t := by
  obtain ⟨a, x, rfl, hs, hx⟩ := h
  exact ⟨a, x, rfl, tp_t e hs, hx.tp e⟩
theorem TVs.tp (e : Tp H H') : ∀ {xs : List V} {ts : List Tm}, TVs K H xs ts → TVs K H' xs ts
  | _, _, .nil => .nil
  | _, _, .cons r q => .cons (r.tp e) (TVs.tp e q)
theorem TVs.app : ∀ {xs : List V} {ts : List Tm}, TVs K H xs ts → TVs K H ys us → TVs K H (xs ++ ys) (ts ++ us)
  | _, _, .nil, h => h
  | _, _, .cons r q, h => .cons r (TVs.app q h)
theorem TVs.len (h : TVs K H xs ts) : xs.length = ts.length := Paired.length h
theorem TVs.get : ∀ {xs : List V} {ts : List Tm} {i : Nat} {x : V}, TVs K H xs ts → xs[i]? = some x → ∃ t, ts[i]? = some t ∧ TermV K H x t
  | _, _, _, _, .nil, e => by simp at e
  | _, _, 0, _, .cons r _, e => by
    simp at e
    subst e
    exact ⟨_, rfl, r⟩
  | _, _, i + 1, x, .cons _ q, e => by
    obtain ⟨t, h1, h2⟩ := TVs.get (i := i) (x := x) q (by simpa using e)
    exact ⟨t, by simpa using h1, h2⟩
end
/-- bounds of a term of a program run from pl -/
structure TOk (k : Nat) (T pl : Int) (t : Tm) : Prop where
  at_ : ((t.pl - pl).natAbs : Int) ≤ T
  co : t.co.natAbs ≤ 2 ^ (100 * k)
  len : t.rs.length + 1 ≤ k
  rs : RsOk t.rs
theorem TOk.up {k k' : Nat} {T T' pl : Int} {t : Tm} (h : TOk k T pl t) (a : k ≤ k') (b : T ≤ T') : TOk k' T' pl t := ⟨Int.le_trans h.at_ b, Nat.le_trans h.co (pow_le2 (by omega)), Nat.le_trans h.len a, h.rs⟩
def sp_common_divisor : Sp := fun vs H Q _ => ∃ (a b : Int), vs = [.int a, .int b] ∧ 0 < a ∧ 0 < b ∧ a.natAbs < 2 ^ 400 ∧ b.natAbs < 2 ^ 400 ∧
  ∀ t H' g f, Same H H' → H' t = some (.tup [.int g, .int f]) → 0 < g → g ∣ a → g ∣ b → b ∣ a * f - g → f.natAbs ≤ b.natAbs → Q (.ref t) H'
def sp_pairs_at (K : PySem.W.Frag) : Sp := fun vs H Q _ => ∃ (x y : V) (n a m b d : Int), vs = [x, y, .int d] ∧ IsPr K H x (n, a) ∧ IsPr K H y (m, b) ∧ 1 ≤ n ∧ n ≤ 2 ^ 100 ∧ 1 ≤ m ∧ m ≤ 2 ^ 100 ∧ 1 ≤ a ∧ a ≤ 2 ^ 331 ∧ 1 ≤ b ∧ b ≤ 2 ^ 331 ∧ d.natAbs < 2 ^ 400 ∧
  ∀ H', Same H H' → Q (.int (wy [(n, a), (m, b)] d)) H'
def sp_ways_at (K : PySem.W.Frag) : Sp := fun vs H Q _ => ∃ (v : V) (rs : Pol) (d : Int), vs = [v, .int d] ∧ TPol K H v rs ∧ rs.length ≤ 2 ∧ RsOk rs ∧ d.natAbs < 2 ^ 400 ∧ ∀ H', Same H H' → Q (.int (wy rs d)) H'
def sp_repeated (K : PySem.W.Frag) : Sp := fun vs H Q _ => ∃ (v : V) (t : Tm) (n s : Int) (k : Nat) (T pl : Int), vs = [v, .int n, .int s] ∧ TermV K H v t ∧ TOk k T pl t ∧ k ≤ 2 ∧ 1 ≤ n ∧ n ≤ 2 ^ 100 ∧ (s.natAbs : Int) ≤ T ∧ s.natAbs ≤ 2 ^ 331 ∧
  ∀ u H' t', Same H H' → TermV K H' u t' → Repd t n s t' → TOk (k + 1) (n * T) pl t' → Q u H'
def sp_terms_of (K : PySem.W.Frag) (k : Nat) : Sp := fun vs H Q _ => ∃ (v : V) (pl : Int) (b : List Ins), vs = [v, .int pl] ∧ PV K H v b ∧ dpP b < k ∧ k ≤ 3 ∧ WP b ∧ NP b ∧ cnP b ≤ 1024 ∧
  ∀ D ys ts H', Same H H' → H D = none → H' D = some (.lst ys) → TVs K H' ys ts → (∀ x, tvs ts x = seP b (x - pl)) → (∀ t ∈ ts, TOk k (trP b) pl t) → ts.length ≤ cnP b → Q (.ref D) H'
def sp_value_of (K : PySem.W.Frag) : Sp := fun vs H Q _ => ∃ (p : Int) (D : Addr) (ys : List V) (ts : List Tm) (x pl T : Int), vs = [.int p, .ref D, .int x] ∧ 0 < p ∧ SqL K H D ys ∧ TVs K H ys ts ∧ ts.length ≤ 100000 ∧ (∀ t ∈ ts, TOk 3 T pl t) ∧ T.natAbs ≤ 2 ^ 330 ∧ (x - pl).natAbs ≤ 2 ^ 340 ∧
  ∀ H', Same H H' → Q (.int (tvs ts x % p)) H'
def sp_value_at (K : PySem.W.Frag) : Sp := fun vs H Q _ => ∃ (p : Int) (v : V) (x : Int) (b : List Ins), vs = [.int p, v, .int x] ∧ 0 < p ∧ PV K H v b ∧ dpP b < 3 ∧ WP b ∧ NP b ∧ cnP b ≤ 1024 ∧ x.natAbs ≤ 2 ^ 340 ∧
  ∀ H', Same H H' → Q (.int (seP b x % p)) H'
theorem wy_pad0 (d : Int) : wy [(1, 1), (1, 1)] d = wy [] d := by
  show (0 + (0 + if d - ((0 : Nat) : Int) * 1 - ((0 : Nat) : Int) * 1 = 0 then (1 : Int) else 0)) = if d = 0 then 1 else 0
  simp
theorem wy_pad1 (r : Int × Int) (d : Int) : wy [r, (1, 1)] d = wy [r] d := by
  rw [wy_cons, wy_cons]
  refine rsum_congr (fun y => ?_) _ _
  show (0 + if y - ((0 : Nat) : Int) * 1 = 0 then (1 : Int) else 0) = if y = 0 then 1 else 0
  simp
theorem wy_bd : ∀ (rs : Pol) (d : Int), 0 ≤ wy rs d ∧ wy rs d ≤ (rs.map fun r => (r.1.toNat : Int)).foldr (· * ·) 1
  | [], d => by
    rw [wy_nil]
    show _ ∧ _ ≤ (1 : Int)
    split <;> omega
  | r :: rs, d => by
    rw [wy_cons]
    exact rsum_bd (fun x => wy_bd rs x) _ _
theorem wy_lt {rs : Pol} (h : RsOk rs) (hl : rs.length ≤ 2) (d : Int) : (wy rs d).natAbs < 2 ^ 201 := by
  have hb := wy_bd rs d
  have e : ∀ r ∈ rs, (r.1.toNat : Int) ≤ 2 ^ 100 := fun r hr => by
    have := h r hr
    omega
  have hM : (rs.map fun r => (r.1.toNat : Int)).foldr (· * ·) 1 ≤ 2 ^ 200 := by
    match rs, hl, e with
    | [], _, _ => decide
    | [r], _, e =>
      have := e r (by simp)
      show (r.1.toNat : Int) * 1 ≤ _
      rw [Int.mul_one]
      exact Int.le_trans this (by decide +kernel)
    | [r, q], _, e =>
      have h1 := e r (by simp)
      have h2 := e q (by simp)
      show (r.1.toNat : Int) * ((q.1.toNat : Int) * 1) ≤ _
      rw [Int.mul_one]
      exact Int.le_trans (Int.mul_le_mul h1 h2 (by omega) (by decide +kernel)) (by decide +kernel)
  have h2 : (2 : Nat) ^ 200 < 2 ^ 201 := by decide +kernel
  have h3 : ((2 : Int) ^ 200) = ((2 ^ 200 : Nat) : Int) := by decide +kernel
  omega
/-- [an int for x, y, z in a list of terms] -/
theorem lcTm {K : PySem.W.Frag} {a : Addr} {xs : List V} {ts : List Tm} {σ : L2.St} {H : Hp} {vs : List Nat} {i j l : Nat} {te tv' : TE} {Q : VK} (G : Tm → Int) (hv : ∀ R : VK, R (.ref a) H → tv' σ H R) (hs : SqL K H a xs) (hP : TVs K H xs ts) (hl : ts.length ≤ 100000)
    (hw : ∀ x y z, wipe ((((wipe σ vs).set i (some x)).set j (some y)).set l (some z)) vs = wipe σ vs)
    (he : ∀ t ∈ ts, ∀ x H2, Same H H2 → TPol K H2 x t.rs → ∀ R : VK, (∀ H3, Same H2 H3 → R (.int (G t)) H3) → te ((((wipe σ vs).set i (some (.int t.pl))).set j (some (.int t.co))).set l (some x)) H2 R)
    (k : ∀ D H2, H D = none → Same H H2 → H2 D = some (.lst ((ts.map G).map V.int)) → Q (.ref D) H2) : tLc (iList K tv') (gTup K 3 (gCons (gName i) (gCons (gName j) (gCons (gName l) gNil)))) tYes te vs σ H Q := by
  refine hv _ ⟨a, rfl, ⟨_, hs⟩, fun D nD => lc_list (K := K) (a := a) (xs := xs) (fun m H2 => Same H H2 ∧ H2 D = some (.lst (((ts.take m).map G).map V.int))) ⟨same_new nD, upd_same⟩ (fun m H2 _ g => same_l g.1 hs) ?_ ?_⟩
  · rintro m x H2 hm ⟨s2, h2⟩
    obtain ⟨t, ht, b, y, rfl, hb, hy⟩ := hP.get hm
    refine ⟨b, _, rfl, same_t s2 hb, rfl, _, _, rfl, _, _, rfl, _, _, rfl, rfl, hw _ _ _, ?_⟩
    dsimp only [tYes]
    rw [if_pos rfl]
    have hm2 : m < ts.length := (List.getElem?_eq_some_iff.mp ht).1
    refine he t (List.mem_of_getElem? ht) y H2 s2 (hy.tp (Same.tp s2)) _ fun H3 s3 => ⟨_, s3 _ _ h2, sl_lt (by rw [List.length_map, List.length_map, List.length_take]; omega), same_mut (s2.trans s3) nD, ?_⟩
    rw [upd_same, take_snoc ht, List.map_append, List.map_append]
    rfl
  · rintro H2 ⟨s2, h2⟩
    rw [hP.len, List.take_length] at h2
    exact k D H2 nD s2 h2
/-- [repeated(term) for term in a list of terms] -/
theorem lcRep {K : PySem.W.Frag} {a : Addr} {xs : List V} {ts : List Tm} {σ : L2.St} {H : Hp} {vs : List Nat} {i : Nat} {te tv' : TE} {Q : VK} (P : Tm → Tm → Prop) (hv : ∀ R : VK, R (.ref a) H → tv' σ H R) (hs : H a = some (.lst xs)) (hP : TVs K H xs ts) (hl : ts.length ≤ 100000)
    (hw : ∀ x, wipe ((wipe σ vs).set i (some x)) vs = wipe σ vs)
    (he : ∀ t ∈ ts, ∀ x H2, Same H H2 → TermV K H2 x t → ∀ R : VK, (∀ u t' H3, Same H2 H3 → TermV K H3 u t' → P t t' → R u H3) → te ((wipe σ vs).set i (some x)) H2 R)
    (k : ∀ D H2 ys us, H D = none → Same H H2 → H2 D = some (.lst ys) → TVs K H2 ys us → Paired P ts us → Q (.ref D) H2) : tLc (iList K tv') (gName i) tYes te vs σ H Q := by
  refine hv _ ⟨a, rfl, ⟨_, SqL.of hs⟩, fun D nD => lc_list (K := K) (a := a) (xs := xs) (fun m H2 => Same H H2 ∧ ∃ ys us, H2 D = some (.lst ys) ∧ TVs K H2 ys us ∧ Paired P (ts.take m) us) ⟨same_new nD, [], [], upd_same, .nil, by rw [List.take_zero]; exact .nil⟩ (fun m H2 _ g => SqL.of (g.1 _ _ hs)) ?_ ?_⟩
  · rintro m x H2 hm ⟨s2, ys, us, h2, hY, hPd⟩
    obtain ⟨t, ht, hx⟩ := hP.get hm
    refine ⟨hw _, ?_⟩
    dsimp only [tYes]
    rw [if_pos rfl]
    have hm2 : m < ts.length := (List.getElem?_eq_some_iff.mp ht).1
    have hyl : ys.length ≤ m := by
      rw [hY.len, ← Paired.length hPd, List.length_take]
      omega
    refine he t (List.mem_of_getElem? ht) x H2 s2 (hx.tp (Same.tp s2)) _ fun u t' H3 s3 hu hp => ⟨ys, s3 _ _ h2, sl_lt (by omega), same_mut (s2.trans s3) nD, ys ++ [u], us ++ [t'], upd_same, TVs.app (hY.tp ((Same.tp s3).trans (tp_lst (s3 _ _ h2)))) (.cons (hu.tp (tp_lst (s3 _ _ h2))) .nil), ?_⟩
    rw [take_snoc ht]
    have app : ∀ {l1 l2 : List Tm}, Paired P l1 l2 → Paired P (l1 ++ [t]) (l2 ++ [t']) := by
      intro l1 l2 h
      induction h with
      | nil => exact .cons hp .nil
      | cons r _ ih => exact .cons r ih
    exact app hPd
  · rintro H2 ⟨s2, ys, us, h2, hY, hPd⟩
    rw [hP.len, List.take_length] at hPd
    exact k D H2 ys us nD s2 h2 hY hPd
theorem lcRepG {K : PySem.W.Frag} {σ : L2.St} {H : Hp} {vs : List Nat} {i : Nat} {te tv' : TE} {Q : VK} (P : Tm → Tm → Prop) (Z : List Tm → Prop) (hv : ∀ R : VK, (∀ a xs ts H1, Same H H1 → H1 a = some (.lst xs) → TVs K H1 xs ts → Z ts → R (.ref a) H1) → tv' σ H R) (hZ : ∀ ts, Z ts → ts.length ≤ 100000)
    (hw : ∀ x, wipe ((wipe σ vs).set i (some x)) vs = wipe σ vs)
    (he : ∀ ts, Z ts → ∀ t ∈ ts, ∀ x H2, Same H H2 → TermV K H2 x t → ∀ R : VK, (∀ u t' H3, Same H2 H3 → TermV K H3 u t' → P t t' → R u H3) → te ((wipe σ vs).set i (some x)) H2 R)
    (k : ∀ D H2 ys ts us, H D = none → Same H H2 → H2 D = some (.lst ys) → TVs K H2 ys us → Z ts → Paired P ts us → Q (.ref D) H2) : tLc (iList K tv') (gName i) tYes te vs σ H Q := by
  refine hv _ fun a xs ts H1 s1 hs hP hz => ?_
  have hl := hZ ts hz
  have nn : ∀ {D : Addr}, H1 D = none → H D = none := fun {D} n => by
    cases hh : H D with
    | none => rfl
    | some o => rw [s1 _ _ hh] at n; cases n
  refine ⟨a, rfl, ⟨_, SqL.of hs⟩, fun D nD => lc_list (K := K) (a := a) (xs := xs) (fun m H2 => Same H1 H2 ∧ ∃ ys us, H2 D = some (.lst ys) ∧ TVs K H2 ys us ∧ Paired P (ts.take m) us) ⟨same_new nD, [], [], upd_same, .nil, by rw [List.take_zero]; exact .nil⟩ (fun m H2 _ g => SqL.of (g.1 _ _ hs)) ?_ ?_⟩
  · rintro m x H2 hm ⟨s2, ys, us, h2, hY, hPd⟩
    obtain ⟨t, ht, hx⟩ := hP.get hm
    refine ⟨hw _, ?_⟩
    dsimp only [tYes]
    rw [if_pos rfl]
    have hm2 : m < ts.length := (List.getElem?_eq_some_iff.mp ht).1
    have hyl : ys.length ≤ m := by
      rw [hY.len, ← Paired.length hPd, List.length_take]
      omega
    refine he ts hz t (List.mem_of_getElem? ht) x H2 (s1.trans s2) (hx.tp (Same.tp s2)) _ fun u t' H3 s3 hu hp => ⟨ys, s3 _ _ h2, sl_lt (by omega), same_mut (s2.trans s3) nD, ys ++ [u], us ++ [t'], upd_same, TVs.app (hY.tp ((Same.tp s3).trans (tp_lst (s3 _ _ h2)))) (.cons (hu.tp (tp_lst (s3 _ _ h2))) .nil), ?_⟩
    rw [take_snoc ht]
    have app : ∀ {l1 l2 : List Tm}, Paired P l1 l2 → Paired P (l1 ++ [t]) (l2 ++ [t']) := by
      intro l1 l2 h
      induction h with
      | nil => exact .cons hp .nil
      | cons r _ ih => exact .cons r ih
    exact app hPd
  · rintro H2 ⟨s2, ys, us, h2, hY, hPd⟩
    rw [hP.len, List.take_length] at hPd
    exact k D H2 ys ts us (nn nD) (s1.trans s2) h2 hY hz hPd
theorem trP_app : ∀ (a b : List Ins), trP (a ++ b) = trP a + trP b
  | [], b => by rw [List.nil_append, trP_nil, Int.zero_add]
  | i :: r, b => by rw [List.cons_append, trP_cons, trP_cons, trP_app r b, Int.add_assoc]
theorem trP_snoc {b : List Ins} {j : Nat} {i : Ins} (h : b[j]? = some i) : trP (b.take (j + 1)) = trP (b.take j) + trI i := by
  rw [take_snoc h, trP_app, trP_cons, trP_nil, Int.add_zero]
theorem trP_take : ∀ (b : List Ins) (j : Nat), trP (b.take j) ≤ trP b
  | [], _ => by rw [List.take_nil]; exact Int.le_refl _
  | i :: r, 0 => by
    rw [List.take_zero, trP_nil]
    exact trP_nn _
  | i :: r, j + 1 => by
    rw [List.take_succ_cons, trP_cons, trP_cons]
    have := trP_take r j
    omega
theorem cnP_snoc' {b : List Ins} {j : Nat} {i : Ins} (h : b[j]? = some i) : cnP (b.take (j + 1)) = cnP (b.take j) + cnI i := by
  rw [take_snoc h, cnP_app, cnP_cons, show cnP [] = 0 by unfold cnP; rfl]
  rfl
theorem cnP_take' : ∀ (b : List Ins) (j : Nat), cnP (b.take j) ≤ cnP b
  | [], _ => by rw [List.take_nil]; exact Nat.le_refl _
  | i :: r, 0 => by rw [List.take_zero, show cnP [] = 0 by unfold cnP; rfl]; exact Nat.zero_le _
  | i :: r, j + 1 => by
    rw [List.take_succ_cons, cnP_cons, cnP_cons]
    have := cnP_take' r j
    omega
theorem prs_perm {K : PySem.W.Frag} {H : Hp} {ys zs : List V} (h : ys.Perm zs) : ∀ {f : Pol}, Prs K H zs f → ∃ g, Prs K H ys g ∧ g.Perm f := by
  induction h with
  | nil =>
    intro f hf
    cases hf
    exact ⟨[], .nil, .nil⟩
  | cons x _ ih =>
    intro f hf
    cases hf with
    | cons r q =>
      obtain ⟨g, h1, h2⟩ := ih q
      exact ⟨_ :: g, .cons r h1, h2.cons _⟩
  | swap x y l =>
    intro f hf
    cases hf with
    | cons r q =>
      cases q with
      | cons r2 q2 => exact ⟨_, .cons r2 (.cons r q2), .swap _ _ _⟩
  | trans _ _ h1 h2 =>
    intro f hf
    obtain ⟨g, a1, a2⟩ := h2 hf
    obtain ⟨g', b1, b2⟩ := h1 a1
    exact ⟨g', b1, b2.trans a2⟩
end DR
namespace DR
open PySem PySem.Spec PyProof.Rows L2
/-! ### the laws' own terms: factor, offset, rounds -/
def LTermV (K : PySem.W.Frag) (H : Hp) (v : V) (t : Tm) : Prop := ∃ a x, v = .ref a ∧ SqT K H a [.int t.co, .int t.pl, x] ∧ TPol K H x t.rs
abbrev LTVs (K : PySem.W.Frag) (H : Hp) : List V → List Tm → Prop := Paired (LTermV K H)
section
variable {K : PySem.W.Frag} {H H' : Hp} {v x : V} {t : Tm} {xs ys : List V} {ts us : List Tm}
theorem LTermV.tp (e : Tp H H') (h : LTermV K H v t) : LTermV K H' v t := by
  obtain ⟨a, x, rfl, hs, hx⟩ := h
  exact ⟨a, x, rfl, tp_t e hs, hx.tp e⟩
theorem LTVs.tp (e : Tp H H') : ∀ {xs : List V} {ts : List Tm}, LTVs K H xs ts → LTVs K H' xs ts
  | _, _, .nil => .nil
  | _, _, .cons r q => .cons (r.tp e) (LTVs.tp e q)
theorem LTVs.app : ∀ {xs : List V} {ts : List Tm}, LTVs K H xs ts → LTVs K H ys us → LTVs K H (xs ++ ys) (ts ++ us)
  | _, _, .nil, h => h
  | _, _, .cons r q, h => .cons r (LTVs.app q h)
theorem LTVs.len (h : LTVs K H xs ts) : xs.length = ts.length := Paired.length h
theorem LTVs.get : ∀ {xs : List V} {ts : List Tm} {i : Nat} {x : V}, LTVs K H xs ts → xs[i]? = some x → ∃ t, ts[i]? = some t ∧ LTermV K H x t
  | _, _, _, _, .nil, e => by simp at e
  | _, _, 0, _, .cons r _, e => by
    simp at e
    subst e
    exact ⟨_, rfl, r⟩
  | _, _, i + 1, x, .cons _ q, e => by
    obtain ⟨t, h1, h2⟩ := LTVs.get (i := i) (x := x) q (by simpa using e)
    exact ⟨t, by simpa using h1, h2⟩
def tmD (t : Tm) : PyData := .tuple [.int t.co, .int t.pl, pd t.rs]
theorem LTermV.dp (h : LTermV K H v t) : Dp K H v (tmD t) := by
  obtain ⟨a, x, rfl, hs, hx⟩ := h
  exact .tup hs (.cons (.int _) (.cons (.int _) (.cons hx.dp .nil)))
theorem LTVs.dp : ∀ {xs : List V} {ts : List Tm}, LTVs K H xs ts → DpAll K H xs (ts.map tmD)
  | _, _, .nil => .nil
  | _, _, .cons r q => .cons r.dp (LTVs.dp q)
end
theorem tmDs_lay : ∀ ts : List Tm, PyData.canLayAll0 (ts.map tmD) = true ∧ PyData.depthAll (ts.map tmD) ≤ 3
  | [] => ⟨rfl, Nat.zero_le _⟩
  | t :: r => by
    obtain ⟨a, b⟩ := tmDs_lay r
    obtain ⟨c, d⟩ := prs_lay t.rs
    refine ⟨?_, ?_⟩
    · show ((true && (true && (PyData.canLayAll0 (t.rs.map pr) && true))) && PyData.canLayAll0 (r.map tmD)) = true
      rw [a, c]
      rfl
    · show max (max 0 (max 0 (max (PyData.depthAll (t.rs.map pr) + 1) 0)) + 1) (PyData.depthAll (r.map tmD)) ≤ 3
      omega
theorem tmDs_shaped (ts : List Tm) : SeqAt.shaped (.list (ts.map tmD)) = true := by
  obtain ⟨a, b⟩ := tmDs_lay ts
  show (PyData.canLayAll0 (ts.map tmD) && decide (PyData.depthAll (ts.map tmD) + 1 ≤ 64)) = true
  rw [a, decide_eq_true (by omega)]
  rfl
structure LOk (k : Nat) (t : Tm) : Prop where
  co : t.co.natAbs ≤ 2 ^ 100
  len : t.rs.length + 1 ≤ k
  rs : ∀ r ∈ t.rs, 1 ≤ r.1 ∧ r.1 ≤ 2 ^ 100 ∧ r.2.natAbs ≤ 2 ^ 331
def sp__law_terms (K : PySem.W.Frag) (k : Nat) : Sp := fun vs H Q _ => ∃ (v : V) (b : List Ins), vs = [v] ∧ PV K H v b ∧ dpP b < k ∧ k ≤ 3 ∧ WP b ∧ NP b ∧ cnP b ≤ 1024 ∧
  ∀ D ys ts H', Same H H' → H D = none → H' D = some (.lst ys) → LTVs K H' ys ts → (∀ x, tvs ts x = seP b x) → (∀ t ∈ ts, LOk k t) → ts.length ≤ cnP b → Q (.ref D) H'
def sp__law_below : Sp := fun vs H Q _ => ∃ (p c : Addr) (n : Int) (m : Nat), vs = [.ref p, .int n] ∧ 1 ≤ n ∧ n ≤ 2 ^ 100 ∧ PenAt H p c m ∧ m < 2 ^ 39 ∧ ∀ r H', 0 ≤ r → r < n → Kp p H H' → PenAt H' p c (m + 3) → Q (.int r) H'
def sp__law_within : Sp := fun vs H Q _ => ∃ (z : Int), vs = [.int z] ∧ ∀ y : Int, y.natAbs ≤ 10 ^ 30 → Q (.int y) H
def sp__law_touched (K : PySem.W.Frag) : Sp := fun vs H Q _ => ∃ (p c : Addr) (v : V) (b : List Ins) (m : Nat), vs = [.ref p, v] ∧ PV K H v b ∧ dpP b < 3 ∧ WP b ∧ NP b ∧ cnP b ≤ 1024 ∧ PenAt H p c m ∧ m < 2 ^ 38 ∧ ∀ z H', Kp p H H' → PenAt H' p c (m + 10) → Q (.int z) H'
def sp__law_flat_program (K : PySem.W.Frag) : Sp := fun vs H Q _ => ∃ (p c : Addr) (most reach rounds : Int) (n : Nat), vs = [.ref p, .int most, .int reach, .int rounds] ∧ 0 ≤ most ∧ most ≤ 20 ∧ 0 ≤ reach ∧ reach ≤ 10 ^ 30 ∧ 0 ≤ rounds ∧ rounds ≤ 10 ^ 30 ∧ PenAt H p c n ∧ n < 2 ^ 38 ∧
  ∀ F xs b H', Kp p H H' → PenAt H' p c (n + 200) → H' F = some (.lst xs) → IVs K H' xs b → PrR b 1 (3 * most.toNat + 1) rounds → Q (.ref F) H'
def sp__law_short_program (K : PySem.W.Frag) : Sp := fun vs H Q _ => ∃ (p c : Addr) (most reach rounds : Int) (n : Nat), vs = [.ref p, .int most, .int reach, .int rounds] ∧ 0 ≤ most ∧ most ≤ 20 ∧ 0 ≤ reach ∧ reach ≤ 10 ^ 30 ∧ 0 ≤ rounds ∧ rounds ≤ 10 ^ 30 ∧ PenAt H p c n ∧ n < 2 ^ 37 ∧
  ∀ F xs b H', Kp p H H' → PenAt H' p c (n + 400) → H' F = some (.lst xs) → IVs K H' xs b → PrR b 2 (5 * most.toNat + 2) rounds → Q (.ref F) H'
/-- [an int for x, y in a tuple of pairs], drawn by the pen -/
theorem lcPenT {K : PySem.W.Frag} {a p c : Addr} {xs : List V} {f : Pol} {σ : L2.St} {H : Hp} {vs : List Nat} {i j : Nat} {te tv' : TE} {Q : VK} (hv : ∀ R : VK, R (.ref a) H → tv' σ H R) (hs : SqT K H a xs) (hP : Prs K H xs f) (hl : f.length ≤ 1000) (b cost : Nat) (pen : PenAt H p c b)
    (hw : ∀ x y, wipe (((wipe σ vs).set i (some x)).set j (some y)) vs = wipe σ vs)
    (he : ∀ t ∈ f, ∀ (m : Nat) H2, m < f.length → PenAt H2 p c (b + cost * m) → ∀ S : VK, (∀ z H3, Kp p H2 H3 → PenAt H3 p c (b + cost * (m + 1)) → S (.int z) H3) → te (((wipe σ vs).set i (some (.int t.1))).set j (some (.int t.2))) H2 S)
    (k : ∀ D H2 (zs : List Int), H2 D = some (.lst (zs.map V.int)) → Kp p H H2 → PenAt H2 p c (b + cost * f.length) → Q (.ref D) H2) : tLc (iTup K tv') (gTup K 2 (gCons (gName i) (gCons (gName j) gNil))) tYes te vs σ H Q := by
  refine hv _ ⟨a, rfl, ⟨_, hs⟩, fun D nD => ?_⟩
  have npD := pen.np nD
  have ncD := pen.nc nD
  refine lc_tup (K := K) (a := a) (xs := xs) (fun m H2 => ∃ zs : List Int, H2 D = some (.lst (zs.map V.int)) ∧ zs.length = m ∧ Kp p H H2 ∧ PenAt H2 p c (b + cost * m)) ⟨[], upd_same, rfl, Same.kp (same_new nD), pen.same (same_new nD)⟩ (fun m H2 _ ⟨_, _, _, k2, _⟩ => tp_t (pen.tp k2) hs) ?_ ?_
  · rintro m x H2 hm ⟨zs, hD, hzl, k2, pen2⟩
    obtain ⟨t, ht, q, rfl, hq⟩ := hP.get hm
    refine ⟨q, _, rfl, tp_t (pen.tp k2) hq, rfl, _, _, rfl, _, _, rfl, rfl, hw _ _, ?_⟩
    dsimp only [tYes]
    rw [if_pos rfl]
    have hm2 : m < f.length := (List.getElem?_eq_some_iff.mp ht).1
    refine he t (List.mem_of_getElem? ht) m H2 hm2 pen2 _ fun z H3 k3 pen3 => ⟨zs.map V.int, k3 _ _ npD hD, sl_lt (by rw [List.length_map]; omega), zs ++ [z], ?_, by rw [List.length_append, hzl]; rfl, fun y o ny ey => ?_, pen3.upd npD ncD⟩
    · rw [upd_same, List.map_append]
      rfl
    · rw [upd_ne (ne_of_none ey nD)]
      exact k3 _ _ ny (k2 _ _ ny ey)
  · rintro H2 ⟨zs, hD, hzl, k2, pen2⟩
    rw [hP.len] at pen2
    exact k D H2 zs hD k2 pen2
end DR
namespace DR
open PySem PySem.Spec PyProof.Rows L2
/-! ### steps times a factor; a program taken back -/
mutual
def stI (f : Int) : Ins → Ins
  | .step c => .step (c * f)
  | .turn c => .turn c
  | .rep n b => .rep n (stP f b)
def stP (f : Int) : List Ins → List Ins
  | [] => []
  | i :: r => stI f i :: stP f r
end
mutual
def bkI : Ins → Ins
  | .step c => .step (0 - c)
  | .turn c => .turn (0 - c)
  | .rep n b => .rep n (bkP b)
def bkP : List Ins → List Ins
  | [] => []
  | i :: r => bkP r ++ [bkI i]
end
mutual
def CI (M : Nat) : Ins → Prop
  | .step c => c.natAbs ≤ M
  | .turn c => c.natAbs ≤ M
  | .rep _ b => CP M b
def CP (M : Nat) : List Ins → Prop
  | [] => True
  | i :: r => CI M i ∧ CP M r
end
theorem stP_nil (f : Int) : stP f [] = [] := by rw [stP]
theorem stP_cons (f : Int) (i : Ins) (r : List Ins) : stP f (i :: r) = stI f i :: stP f r := by rw [stP]
theorem bkP_nil : bkP [] = [] := by rw [bkP]
theorem bkP_cons (i : Ins) (r : List Ins) : bkP (i :: r) = bkP r ++ [bkI i] := by rw [bkP]
theorem CP_cons (M : Nat) (i : Ins) (r : List Ins) : CP M (i :: r) = (CI M i ∧ CP M r) := by rw [CP]
theorem CP_app {M : Nat} : ∀ {a b : List Ins}, CP M a → CP M b → CP M (a ++ b)
  | [], b, _, h => h
  | i :: r, b, h, h2 => by
    rw [List.cons_append, CP_cons]
    rw [CP_cons] at h
    exact ⟨h.1, CP_app h.2 h2⟩
theorem flat_cp {N R : Nat} : ∀ {b : List Ins}, Flat b N R → CP R b
  | [], _ => by rw [CP]; trivial
  | i :: r, h => by
    rw [CP_cons]
    refine ⟨?_, flat_cp (b := r) ⟨Nat.le_trans (Nat.le_succ _) h.len, fun j hj => h.flat j (List.mem_cons_of_mem _ hj), fun j hj => h.cnt j (List.mem_cons_of_mem _ hj)⟩⟩
    have h1 := h.flat i List.mem_cons_self
    have h2 := h.cnt i List.mem_cons_self
    cases i with
    | step c => rw [CI]; exact h2
    | turn c => rw [CI]; exact h2
    | rep n b => exact absurd h1 id
theorem stP_app (f : Int) : ∀ a b : List Ins, stP f (a ++ b) = stP f a ++ stP f b
  | [], b => by rw [stP_nil]; rfl
  | i :: r, b => by rw [List.cons_append, stP_cons, stP_cons, stP_app f r b]; rfl
theorem bkP_app : ∀ a b : List Ins, bkP (a ++ b) = bkP b ++ bkP a
  | [], b => by rw [bkP_nil, List.append_nil]; rfl
  | i :: r, b => by rw [List.cons_append, bkP_cons, bkP_cons, bkP_app r b, List.append_assoc]
theorem st_len (f : Int) : ∀ b : List Ins, (stP f b).length = b.length
  | [] => by rw [stP_nil]
  | i :: r => by rw [stP_cons, List.length_cons, List.length_cons, st_len f r]
theorem bk_len : ∀ b : List Ins, (bkP b).length = b.length
  | [] => by rw [bkP_nil]
  | i :: r => by rw [bkP_cons, List.length_append, bk_len r]; rfl
mutual
theorem stI_dp (f : Int) : ∀ i : Ins, dpI (stI f i) = dpI i
  | .step c => by rw [stI, dpI, dpI]
  | .turn c => by rw [stI]
  | .rep n b => by rw [stI, dpI, dpI, st_dp f b]
theorem st_dp (f : Int) : ∀ b : List Ins, dpP (stP f b) = dpP b
  | [] => by rw [stP_nil]
  | i :: r => by rw [stP_cons, dpP_cons, dpP_cons, stI_dp f i, st_dp f r]
end
mutual
theorem stI_cn (f : Int) : ∀ i : Ins, cnI (stI f i) = cnI i
  | .step c => by rw [stI, cnI, cnI]
  | .turn c => by rw [stI]
  | .rep n b => by rw [stI, cnI, cnI, st_cn f b]
theorem st_cn (f : Int) : ∀ b : List Ins, cnP (stP f b) = cnP b
  | [] => by rw [stP_nil]
  | i :: r => by rw [stP_cons, cnP_cons, cnP_cons, stI_cn f i, st_cn f r]
end
mutual
theorem bkI_dp : ∀ i : Ins, dpI (bkI i) = dpI i
  | .step c => by rw [bkI, dpI, dpI]
  | .turn c => by rw [bkI, dpI, dpI]
  | .rep n b => by rw [bkI, dpI, dpI, bk_dp b]
theorem bk_dp : ∀ b : List Ins, dpP (bkP b) = dpP b
  | [] => by rw [bkP_nil]
  | i :: r => by
    rw [bkP_cons, dpP_app, dpP_cons, dpP_cons, bkI_dp i, bk_dp r, show dpP [] = 0 by unfold dpP; rfl]
    omega
end
mutual
theorem bkI_cn : ∀ i : Ins, cnI (bkI i) = cnI i
  | .step c => by rw [bkI, cnI, cnI]
  | .turn c => by rw [bkI, cnI, cnI]
  | .rep n b => by rw [bkI, cnI, cnI, bk_cn b]
theorem bk_cn : ∀ b : List Ins, cnP (bkP b) = cnP b
  | [] => by rw [bkP_nil]
  | i :: r => by
    rw [bkP_cons, cnP_app, cnP_cons, cnP_cons, bkI_cn i, bk_cn r, show cnP [] = 0 by unfold cnP; rfl]
    omega
end
mutual
theorem stI_np (f : Int) : ∀ i : Ins, NI i → NI (stI f i)
  | .step c, _ => by rw [stI, NI]; trivial
  | .turn c, h => by rw [stI]; exact h
  | .rep n b, h => by
    rw [NI] at h
    rw [stI, NI]
    exact ⟨h.1, st_np f b h.2⟩
theorem st_np (f : Int) : ∀ b : List Ins, NP b → NP (stP f b)
  | [], h => by rw [stP_nil]; exact h
  | i :: r, h => by
    rw [NP_cons] at h
    rw [stP_cons, NP_cons]
    exact ⟨stI_np f i h.1, st_np f r h.2⟩
end
mutual
theorem bkI_np : ∀ i : Ins, NI i → NI (bkI i)
  | .step c, _ => by rw [bkI, NI]; trivial
  | .turn c, h => by rw [bkI, NI]; trivial
  | .rep n b, h => by
    rw [NI] at h
    rw [bkI, NI]
    exact ⟨h.1, bk_np b h.2⟩
theorem bk_np : ∀ b : List Ins, NP b → NP (bkP b)
  | [], h => by rw [bkP_nil]; exact h
  | i :: r, h => by
    rw [NP_cons] at h
    rw [bkP_cons]
    refine NP_app _ _ (bk_np r h.2) ?_
    rw [NP_cons]
    exact ⟨bkI_np i h.1, by rw [NP]; trivial⟩
end
mutual
theorem stI_w {f : Int} {M : Nat} (hf : f.natAbs ≤ 16) (hM : M * 16 ≤ 2 ^ 100) : ∀ i : Ins, CI M i → WI i → WI (stI f i)
  | .step c, h, _ => by
    rw [CI] at h
    rw [stI, WI, Int.natAbs_mul]
    exact Nat.le_trans (Nat.mul_le_mul h hf) hM
  | .turn c, _, w => by rw [stI]; exact w
  | .rep n b, h, w => by
    rw [CI] at h
    rw [WI] at w
    rw [stI, WI, st_len]
    exact ⟨w.1, w.2.1, st_w hf hM b h w.2.2⟩
theorem st_w {f : Int} {M : Nat} (hf : f.natAbs ≤ 16) (hM : M * 16 ≤ 2 ^ 100) : ∀ b : List Ins, CP M b → WP b → WP (stP f b)
  | [], _, w => by rw [stP_nil]; exact w
  | i :: r, h, w => by
    rw [CP_cons] at h
    rw [WP] at w
    rw [stP_cons, WP]
    exact ⟨stI_w hf hM i h.1 w.1, st_w hf hM r h.2 w.2⟩
end
mutual
theorem bkI_w : ∀ i : Ins, WI i → WI (bkI i)
  | .step c, w => by
    rw [WI] at w
    rw [bkI, WI, Int.zero_sub, Int.natAbs_neg]
    exact w
  | .turn c, w => by
    rw [WI] at w
    rw [bkI, WI, Int.zero_sub, Int.natAbs_neg]
    exact w
  | .rep n b, w => by
    rw [WI] at w
    rw [bkI, WI, bk_len]
    exact ⟨w.1, w.2.1, bk_w b w.2.2⟩
theorem bk_w : ∀ b : List Ins, WP b → WP (bkP b)
  | [], w => by rw [bkP_nil]; exact w
  | i :: r, w => by
    rw [WP] at w
    rw [bkP_cons]
    refine WP_app _ _ (bk_w r w.2) ?_
    rw [WP]
    exact ⟨bkI_w i w.1, by rw [WP]; trivial⟩
end
mutual
theorem shI_st (f : Int) : ∀ i : Ins, shI (stI f i) = f * shI i
  | .step c => by rw [stI, shI, shI, Int.mul_comm]
  | .turn c => by rw [stI, shI, Int.mul_zero]
  | .rep n b => by rw [stI, shI, shI, shP_st f b, Int.mul_left_comm]
theorem shP_st (f : Int) : ∀ b : List Ins, shP (stP f b) = f * shP b
  | [] => by rw [stP_nil, shP_nil, Int.mul_zero]
  | i :: r => by rw [stP_cons, shP_cons, shP_cons, shI_st f i, shP_st f r, Int.mul_add]
end
mutual
theorem shI_bk : ∀ i : Ins, shI (bkI i) = - shI i
  | .step c => by rw [bkI, shI, shI]; omega
  | .turn c => by rw [bkI, shI, shI]; rfl
  | .rep n b => by rw [bkI, shI, shI, shP_bk b, Int.mul_neg]
theorem shP_bk : ∀ b : List Ins, shP (bkP b) = - shP b
  | [] => by rw [bkP_nil, shP_nil]; rfl
  | i :: r => by
    rw [bkP_cons, shP_app, shP_cons, shP_cons, shP_nil, shI_bk i, shP_bk r]
    omega
end
theorem rsum_scale {f : Int} {g h : Int → Int} (e : ∀ x, g (f * x) = h x) (s : Int) : ∀ (n : Nat) (x : Int), rsum g (f * s) n (f * x) = rsum h s n x
  | 0, _ => rfl
  | n + 1, x => by
    show rsum g (f * s) n (f * x) + g (f * x - n * (f * s)) = rsum h s n x + h (x - n * s)
    rw [rsum_scale e s n x, ← e, Int.mul_sub, Int.mul_left_comm]
theorem rsum_off {f : Int} {g : Int → Int} (e : ∀ x, ¬ f ∣ x → g x = 0) (s : Int) : ∀ (n : Nat) (x : Int), ¬ f ∣ x → rsum g (f * s) n x = 0
  | 0, _, _ => rfl
  | n + 1, x, h => by
    show rsum g (f * s) n x + g (x - n * (f * s)) = 0
    rw [rsum_off e s n x h, e]
    · rfl
    · intro d
      have h2 : f ∣ (n : Int) * (f * s) := ⟨n * s, by rw [Int.mul_left_comm]⟩
      have h3 := Int.dvd_add d h2
      rw [Int.sub_add_cancel] at h3
      exact h h3
mutual
theorem seI_st {f : Int} (hf : f ≠ 0) : ∀ (i : Ins) (x : Int), seI (stI f i) (f * x) = seI i x
  | .step c, x => by rw [stI, seI, seI]
  | .turn c, x => by
    rw [stI, seI, seI]
    by_cases h : x = 0
    · rw [if_pos h, if_pos (by rw [h, Int.mul_zero])]
    · rw [if_neg h, if_neg (fun z => (Int.mul_eq_zero.mp z).elim hf h)]
  | .rep n b, x => by
    rw [stI, seI, seI, shP_st]
    exact rsum_scale (fun y => seP_st hf b y) (shP b) n.toNat x
theorem seP_st {f : Int} (hf : f ≠ 0) : ∀ (b : List Ins) (x : Int), seP (stP f b) (f * x) = seP b x
  | [], x => by rw [stP_nil, seP_nil, seP_nil]
  | i :: r, x => by rw [stP_cons, seP_cons, seP_cons, seI_st hf i x, shI_st, ← Int.mul_sub, seP_st hf r]
end
mutual
theorem seI_off {f : Int} : ∀ (i : Ins) (x : Int), ¬ f ∣ x → seI (stI f i) x = 0
  | .step c, x, _ => by rw [stI, seI]
  | .turn c, x, h => by
    rw [stI, seI]
    refine if_neg fun z => h ?_
    rw [z]
    exact Int.dvd_zero f
  | .rep n b, x, h => by
    rw [stI, seI, shP_st]
    exact rsum_off (fun y hy => seP_off b y hy) (shP b) n.toNat x h
theorem seP_off {f : Int} : ∀ (b : List Ins) (x : Int), ¬ f ∣ x → seP (stP f b) x = 0
  | [], x, _ => by rw [stP_nil, seP_nil]
  | i :: r, x, h => by
    rw [stP_cons, seP_cons, seI_off i x h, shI_st, seP_off r]
    · rfl
    · intro d
      exact h (by have := Int.dvd_add d (⟨shI i, rfl⟩ : f ∣ f * shI i); rwa [Int.sub_add_cancel] at this)
end
theorem rsum_first (f : Int → Int) (s : Int) : ∀ (n : Nat) (x : Int), rsum f s (n + 1) x = f x + rsum f s n (x - s)
  | 0, x => by
    show 0 + f (x - ((0 : Nat) : Int) * s) = f x + 0
    rw [Int.zero_add, Int.add_zero, Int.natCast_zero, Int.zero_mul, Int.sub_zero]
  | n + 1, x => by
    show rsum f s (n + 1) x + f (x - ((n + 1 : Nat) : Int) * s) = f x + (rsum f s n (x - s) + f (x - s - n * s))
    rw [rsum_first f s n x, Int.add_assoc, Int.natCast_succ, Int.add_mul, Int.one_mul, show x - ((n : Int) * s + s) = x - s - n * s by omega]
theorem rsum_undo {f g : Int → Int} {s : Int} (e : ∀ x, g (x - s) = - f x) : ∀ (n : Nat) (x : Int), rsum g (-s) n (x - n * s) = - rsum f s n x
  | 0, _ => rfl
  | n + 1, x => by
    rw [rsum_first g, show x - ((n + 1 : Nat) : Int) * s - -s = x - n * s by rw [Int.natCast_succ, Int.add_mul, Int.one_mul]; omega, rsum_undo e n x]
    show g (x - ((n + 1 : Nat) : Int) * s) + - rsum f s n x = - (rsum f s n x + f (x - n * s))
    rw [show x - ((n + 1 : Nat) : Int) * s = (x - n * s) - s by rw [Int.natCast_succ, Int.add_mul, Int.one_mul]; omega, e]
    omega
mutual
theorem seI_bk : ∀ (i : Ins) (x : Int), NI i → seI (bkI i) (x - shI i) = - seI i x
  | .step c, x, _ => by rw [bkI, seI, seI]; rfl
  | .turn c, x, _ => by
    rw [bkI, seI, seI, shI, Int.sub_zero]
    split <;> omega
  | .rep n b, x, h => by
    rw [NI] at h
    rw [bkI, seI, seI, shI, shP_bk]
    have := rsum_undo (f := fun y => seP b y) (g := fun y => seP (bkP b) y) (s := shP b) (fun y => seP_bk b y h.2) n.toNat x
    rw [Int.toNat_of_nonneg h.1] at this
    exact this
theorem seP_bk : ∀ (b : List Ins) (x : Int), NP b → seP (bkP b) (x - shP b) = - seP b x
  | [], x, _ => by rw [bkP_nil, seP_nil, seP_nil]; rfl
  | i :: r, x, h => by
    rw [NP_cons] at h
    have h1 := seP_bk r (x - shI i) h.2
    have h2 := seI_bk i x h.1
    rw [bkP_cons, seP_app, seP_cons, seP_nil, shP_bk, shP_cons, seP_cons, Int.add_zero, show x - (shI i + shP r) - - shP r = x - shI i by omega, show x - (shI i + shP r) = x - shI i - shP r by omega, h1, h2]
    omega
end
theorem er_inS {H Hc H3 : Hp} {D : Addr} {ys : List V} (k : Same H Hc) (hD : Hc D = some (.lst ys)) : Same (er Hc H3) (er1 D (er H H3)) := fun b o e => by
  obtain ⟨h1, h2⟩ := er_at e
  exact er1_of (fun z => h2 ys (z ▸ hD)) (er_of h1 fun xs z => h2 xs (k _ _ z))
theorem er1_sameS {D : Addr} {H H2 H3 : Hp} (s : Same H2 H3) : Same (er1 D (er H H2)) (er1 D (er H H3)) := fun b o e => by
  obtain ⟨h1, h2⟩ := er1_at e
  exact er1_of h1 (er_same s _ _ h2)
theorem er1_updS {D : Addr} {H H2 : Hp} {o : HO} : Same (er1 D (er H H2)) (er1 D (er H (upd H2 D o))) := fun b u e => by
  obtain ⟨h1, h2⟩ := er1_at e
  obtain ⟨h3, h4⟩ := er_at h2
  exact er1_of h1 (er_of (by rw [upd_ne h1]; exact h3) h4)
theorem er1_tup {D t : Addr} {H H2 : Hp} {us ys : List V} {o : HO} (s : Same H H2) (nt : H2 t = none) (hD : H2 D = some (.lst ys)) : er1 D (er H (upd (upd H2 t (.tup us)) D o)) t = some (.tup us) := by
  have ne : t ≠ D := (ne_of_none hD nt).symm
  refine er1_of ne (er_of (by rw [upd_ne ne, upd_same]) fun xs z => ?_)
  rw [s _ _ z] at nt
  cases nt
def sp__law_backward (K : PySem.W.Frag) (k : Nat) : Sp := fun vs H Q _ => ∃ (v : V) (b : List Ins), vs = [v] ∧ PV K H v b ∧ dpP b < k ∧ k ≤ 3 ∧ cnP b ≤ 1024 ∧ ∀ D ys H', Same H H' → H' D = some (.lst ys) → IVs K H' ys (bkP b) → Q (.ref D) H'
def sp__law_stepped (K : PySem.W.Frag) (k : Nat) : Sp := fun vs H Q _ => ∃ (v : V) (f : Int) (b : List Ins), vs = [v, .int f] ∧ PV K H v b ∧ dpP b < k ∧ k ≤ 3 ∧ cnP b ≤ 1024 ∧ WP b ∧ f.natAbs ≤ 16 ∧ ∀ D H', Same H H' → PV K (er H H') (.ref D) (stP f b) → Q (.ref D) H'
def sp__law_flat_programC (K : PySem.W.Frag) : Sp := fun vs H Q _ => ∃ (p c : Addr) (most reach rounds : Int) (n : Nat), vs = [.ref p, .int most, .int reach, .int rounds] ∧ 0 ≤ most ∧ most ≤ 20 ∧ 0 ≤ reach ∧ reach ≤ 10 ^ 30 ∧ 0 ≤ rounds ∧ rounds ≤ 10 ^ 30 ∧ PenAt H p c n ∧ n < 2 ^ 38 ∧
  ∀ F xs b H', Kp p H H' → PenAt H' p c (n + 200) → H' F = some (.lst xs) → IVs K H' xs b → PrR b 1 (3 * most.toNat + 1) rounds → CP (reach.natAbs + 3) b → Q (.ref F) H'
def sp__law_short_programC (K : PySem.W.Frag) : Sp := fun vs H Q _ => ∃ (p c : Addr) (most reach rounds : Int) (n : Nat), vs = [.ref p, .int most, .int reach, .int rounds] ∧ 0 ≤ most ∧ most ≤ 20 ∧ 0 ≤ reach ∧ reach ≤ 10 ^ 30 ∧ 0 ≤ rounds ∧ rounds ≤ 10 ^ 30 ∧ PenAt H p c n ∧ n < 2 ^ 37 ∧
  ∀ F xs b H', Kp p H H' → PenAt H' p c (n + 400) → H' F = some (.lst xs) → IVs K H' xs b → PrR b 2 (5 * most.toNat + 2) rounds → CP (reach.natAbs + 3) b → Q (.ref F) H'
end DR
namespace DR
open PySem PySem.Spec PyProof.Rows L2
def topS (i : Nat) : Stmt := PySem.Challenge.pw_dialroad_k34_whole_dials_add_up.main.body.getD i (.Pass ⟨0, 0, 0, 0⟩)
abbrev s_common_divisor : Stmt := topS 1
abbrev s_shift_of : Stmt := topS 3
abbrev s_repeated : Stmt := topS 5
abbrev s_terms_of : Stmt := topS 6
abbrev s_pairs_at : Stmt := topS 7
abbrev s_ways_at : Stmt := topS 8
abbrev s_value_of : Stmt := topS 9
abbrev s_value_at : Stmt := topS 11
abbrev s__law_pen : Stmt := topS 13
abbrev s__law_draw : Stmt := topS 14
abbrev s__law_pick : Stmt := topS 15
abbrev s__law_prime : Stmt := topS 16
abbrev s__law_integer : Stmt := topS 17
abbrev s__law_body : Stmt := topS 18
abbrev s__law_shift : Stmt := topS 19
abbrev s__law_flat_program : Stmt := topS 20
abbrev s__law_short_program : Stmt := topS 21
abbrev s__law_backward : Stmt := topS 22
abbrev s__law_stepped : Stmt := topS 23
abbrev s__law_terms : Stmt := topS 24
abbrev s__law_below : Stmt := topS 25
abbrev s__law_touched : Stmt := topS 26
abbrev s_law : Stmt := topS 27
/-- the built-in names that the texts use are still the built-in ones -/
structure Blt (mg : Str → Option Value) : Prop where
  tuple : mg "tuple" = none
  sorted : mg "sorted" = none
  range : mg "range" = none
  list : mg "list" = none
  len : mg "len" = none
  abs : mg "abs" = none
  repr : mg "repr" = none
  int : mg "int" = none
  bool : mg "bool" = none
  dict : mg "dict" = none
  min : mg "min" = none
  max : mg "max" = none
  zip : mg "zip" = none
  all : mg "all" = none
  isinstance : mg "isinstance" = none
  sum : mg "sum" = none
  any : mg "any" = none
  str : mg "str" = none
  set : mg "set" = none
section
variable {P : Program} {w : World} {K : PySem.W.Frag} {mg : Str → Option Value} {base : Heap}
theorem sc_common_divisor : FnScope ["one", "other", "divisor", "rest", "factor", "following", "quotient"] ["one", "other"] (defScope s_common_divisor) := ⟨rfl, rfl, rfl, by decide +kernel, rfl, by decide +kernel, by decide +kernel⟩
structure CdInv (a b D R X Y : Int) : Prop where
  d0 : 0 < D
  r0 : 0 ≤ R
  dm : D.natAbs < 2 ^ 400
  rm : R.natAbs < 2 ^ 400
  x1 : b ∣ a * X - D
  y1 : b ∣ a * Y - R
  cd : ∀ c, c ∣ D → c ∣ R → c ∣ a ∧ c ∣ b
  det : (X.natAbs : Int) * R + (Y.natAbs : Int) * D = b
  opp : (0 ≤ X ∧ Y ≤ 0) ∨ (X ≤ 0 ∧ 0 ≤ Y)
  xb : X.natAbs ≤ b.natAbs
theorem CdInv.yb {a b D R X Y : Int} (h : CdInv a b D R X Y) : Y.natAbs ≤ b.natAbs := by
  have h1 := h.det
  have h2 : 0 ≤ (X.natAbs : Int) * R := Int.mul_nonneg (by omega) h.r0
  have h3 : (Y.natAbs : Int) * 1 ≤ (Y.natAbs : Int) * D := Int.mul_le_mul_of_nonneg_left (by have := h.d0; omega) (by omega)
  rw [Int.mul_one] at h3
  omega
theorem CdInv.step {a b D R X Y : Int} (h : CdInv a b D R X Y) (hR : R ≠ 0) : CdInv a b R (D - D / R * R) Y (X - D / R * Y) := by
  have hr := h.r0
  have hrp : 0 < R := by omega
  have hmod : D - D / R * R = D % R := by
    have := Int.emod_add_mul_ediv D R
    rw [Int.mul_comm R] at this
    omega
  have m0 := Int.emod_nonneg D hR
  have m1 := Int.emod_lt_of_pos D hrp
  have q0 : 0 ≤ D / R := Int.ediv_nonneg (by have := h.d0; omega) hr
  refine ⟨hrp, by omega, h.rm, by have := h.rm; omega, h.y1, ?_, fun c c1 c2 => ?_, ?_, ?_, h.yb⟩
  · have e : a * (X - D / R * Y) - (D - D / R * R) = (a * X - D) - D / R * (a * Y - R) := by
      rw [Int.mul_sub, Int.mul_sub, ← Int.mul_assoc a, ← Int.mul_assoc (D / R) a, Int.mul_comm a (D / R)]
      omega
    rw [e]
    exact Int.dvd_sub h.x1 (Int.dvd_mul_of_dvd_right h.y1)
  · refine h.cd c ?_ c1
    have := Int.dvd_add c2 (Int.dvd_trans c1 (Int.dvd_mul_left (D / R) R))
    rw [Int.sub_add_cancel] at this
    exact this
  · have hd := h.det
    have e : ((X - D / R * Y).natAbs : Int) = (X.natAbs : Int) + D / R * (Y.natAbs : Int) := by
      have hp : 0 ≤ D / R * (Y.natAbs : Int) := Int.mul_nonneg q0 (by omega)
      rcases h.opp with ⟨o1, o2⟩ | ⟨o1, o2⟩
      · have : D / R * Y = -(D / R * (Y.natAbs : Int)) := by
          rw [← Int.mul_neg]
          congr 1
          omega
        omega
      · have : D / R * Y = D / R * (Y.natAbs : Int) := by
          congr 1
          omega
        omega
    rw [e, Int.add_mul, Int.mul_sub, Int.mul_assoc (D / R), ← Int.mul_assoc (Y.natAbs : Int), Int.mul_comm (Y.natAbs : Int) (D / R), Int.mul_assoc]
    omega
  · rcases h.opp with ⟨o1, o2⟩ | ⟨o1, o2⟩
    · have : D / R * Y ≤ 0 := Int.mul_nonpos_of_nonneg_of_nonpos q0 o2
      exact .inr ⟨o2, by omega⟩
    · have : 0 ≤ D / R * Y := Int.mul_nonneg q0 o2
      exact .inl ⟨o2, by omega⟩
theorem ok_common_divisor {f : Addr} {fd : FuncData} (F : Fun K "common_divisor" "common_divisor" s_common_divisor f fd) (B : Blt mg) : FnOk P w K mg base CX0 1 f fd ["one", "other"] sp_common_divisor := by
  refine F.ok sc_common_divisor (fun vs H Q E h => ?_) (fun cdv A outer s H vs Q E hr h => ?_)
  · obtain ⟨a, b, rfl, _⟩ := h
    rfl
  · obtain ⟨a, b, rfl, ha, hb, ha4, hb4, q⟩ := h
    have nd := sc_common_divisor.nd
    refine ⟨_, (pss_cons (ps_par (i := 2) (j := 3) (by rfl) nd rfl rfl (by decide) rfl rfl (pa_cons (pv 0) (pa_cons (pv 1) pa_nil)) (by rfl))
    (pss_cons (ps_asg (pe_tup (pa_cons pe_int (pa_cons pe_int pa_nil))) (pg_tup rfl (pgs_cons (pg_name (i := 4) nd rfl (.inl rfl)) (pgs_cons (pg_name (i := 5) nd rfl (.inl rfl)) pgs_nil))))
    (pss_cons (ps_while PassesOwn.never (pt_cmpR op_ne (pv 3) pe_int (nomark _))
      (pss_cons (ps_set (i := 6) nd rfl (.inl rfl) (pe_op op_fdivW (pv 2) (pv 3)))
    (pss_cons (ps_par (i := 2) (j := 3) (by rfl) nd rfl rfl (by decide) rfl rfl (pa_cons (pv 3) (pa_cons (pe_op op_sub (pv 2) (pe_op op_mulW (pv 6) (pv 3))) pa_nil)) (by rfl))
    (pss_one (ps_par (i := 4) (j := 5) (by rfl) nd rfl rfl (by decide) rfl rfl (pa_cons (pv 5) (pa_cons (pe_op op_sub (pv 4) (pe_op op_mulW (pv 6) (pv 5))) pa_nil)) (by rfl))))))
    (pss_one (ps_ret (pe_tup (pa_cons (pv 2) (pa_cons (pv 4) pa_nil)))))))), ?_⟩
    refine ⟨_, rfl, _, rfl, _, _, rfl, sl_of (show 2 ≤ 1000000 by decide), fun t0 nt0 => ?_⟩
    refine ⟨t0, _, rfl, SqT.of upd_same, rfl, _, _, rfl, _, _, rfl, rfl, ?_⟩
    have s0 := same_new nt0 (o := HO.tup [V.int 1, V.int 0])
    refine while_by (fun σ H2 => ∃ (D R X Y : Int) (y : Option V), σ = [some (.int a), some (.int b), some (.int D), some (.int R), some (.int X), some (.int Y), y] ∧ Same H H2 ∧ CdInv a b D R X Y) (fun (σ : L2.St) _ => match σ[3]? with | some (some (V.int R)) => R.toNat | _ => 0) ?_ ?_ ?_
    · refine ⟨a, b, 1, 0, none, rfl, s0, ha, by omega, ha4, hb4, ⟨0, by omega⟩, ⟨-1, by omega⟩, fun c c1 c2 => ⟨c1, c2⟩, ?_, .inl ⟨by decide, by decide⟩, by show 1 ≤ _; omega⟩
      show 1 * b + 0 * a = b
      omega
    · rintro σ H2 ⟨D, R, X, Y, y, rfl, s2, inv⟩
      refine ⟨_, rfl, rfl, _, rfl, ?_⟩
      by_cases hR : R = 0
      · subst hR
        refine iteNS rfl ?_
        obtain ⟨c1, c2⟩ := inv.cd D (Int.dvd_refl D) (Int.dvd_zero D)
        exact ⟨_, rfl, _, rfl, sl_of (show 2 ≤ 1000000 by decide), fun t nt => q t _ D X (s2.trans (same_new nt)) upd_same inv.d0 c1 c2 inv.x1 inv.xb⟩
      · refine iteNN (fun z => hR (by injection z)) ?_
        have hrp : 0 < R := by have := inv.r0; omega
        have qb : (D / R).natAbs < 2 ^ 400 := Nat.lt_of_le_of_lt (ediv_bd hrp) inv.dm
        refine ⟨_, rfl, _, rfl, D, R, rfl, rfl, wide_div hrp inv.rm (by decide) (by decide), ?_⟩
        refine ⟨_, rfl, _, rfl, _, rfl, _, rfl, D / R, R, rfl, rfl, wide_mul qb inv.rm (by decide) (by decide) (by decide), D, _, rfl, rfl, _, _, rfl, ?_⟩
        refine ⟨_, rfl, _, rfl, _, rfl, _, rfl, D / R, Y, rfl, rfl, wide_mul qb (Nat.lt_of_le_of_lt inv.yb hb4) (by decide) (by decide) (by decide), X, _, rfl, rfl, _, _, rfl, ?_⟩
        refine ⟨⟨R, _, Y, _, _, rfl, s2, inv.step hR⟩, ?_⟩
        show (D - D / R * R).toNat < R.toNat
        have h1 := Int.emod_add_mul_ediv D R
        rw [Int.mul_comm R] at h1
        have h2 := Int.emod_lt_of_pos D hrp
        omega
    · intro σ H2 Q Q' hq h
      obtain ⟨x, e1, e2, k, e3, h⟩ := h
      exact ⟨x, e1, e2, k, e3, hq _ _ h⟩
theorem sc_shift_of : FnScope ["program", "shift", "instruction"] ["program"] (defScope s_shift_of) := ⟨rfl, rfl, rfl, by decide +kernel, rfl, by decide +kernel, by decide +kernel⟩
theorem ok_shift_of (k : Nat) (C_shift_of : Cal P w K mg base (k + 0) "shift_of" (sp_shift_of K k)) {f : Addr} {fd : FuncData} (F : Fun K "shift_of" "shift_of" s_shift_of f fd) (B : Blt mg) : FnOk P w K mg base CX0 (k + 0 + 1) f fd ["program"] (sp_shift_of K (k + 1)) := by
  refine F.ok sc_shift_of (fun vs H Q E h => ?_) (fun cdv A outer s H vs Q E hr h => ?_)
  · obtain ⟨v, b, rfl, _⟩ := h
    rfl
  · obtain ⟨v, b, rfl, hv, hd, hk, hw, hl, q⟩ := h
    have nd := sc_shift_of.nd
    obtain ⟨a, xs, rfl, hsq, hI⟩ := hv.inv
    rcases hsq with hs | hs
    · refine ⟨_, (pss_cons (ps_set (i := 1) nd rfl (.inl rfl) pe_int)
    (pss_cons (ps_for PassesOwn.never rfl (pi_list (pv 0)) (pg_name (i := 2) nd rfl (.inl rfl))
      (pss_one (ps_if (pt_cmpR op_eq (pe_ix ix_tup (pv 2) pe_int (fun _ _ => rfl)) pe_str (nomark _))
      (pss_one (ps_aug (i := 1) nd rfl (.inl rfl) (pe_ix ix_tup (pv 2) pe_int (fun _ _ => rfl)) ip_add))
      (pss_one (ps_if (pt_cmpR op_eq (pe_ix ix_tup (pv 2) pe_int (fun _ _ => rfl)) pe_str (nomark _))
      (pss_one (ps_aug (i := 1) nd rfl (.inl rfl) (pe_op op_mulW (pe_ix ix_tup (pv 2) pe_int (fun _ _ => rfl)) (pe_c C_shift_of hr (by omega) (by rfl) (pa_cons (pe_ix ix_tup (pv 2) pe_int (fun _ _ => rfl)) pa_nil))) ip_add))
      pss_nil)))))
    (pss_one (ps_ret (pv 1))))), ?_⟩
      refine ⟨_, rfl, a, rfl, ⟨_, hs⟩, for_list (K := K) (a := a) (xs := xs) (fun j σ H2 => ∃ y, σ = [some (.ref a), some (.int (shP (b.take j))), y] ∧ H2 = H) ⟨none, by rw [List.take_zero, shP_nil]; rfl, rfl⟩ ?_ ?_ ?_⟩
      · rintro j σ H2 _ ⟨y, _, rfl⟩
        exact hs
      · rintro j x σ H2 hj ⟨y, rfl, rfl⟩
        obtain ⟨i, hi, hx⟩ := hI.get hj
        have hm := List.mem_of_getElem? hi
        rcases hx.inv with ⟨c, n, rfl, ht, rfl⟩ | ⟨c, n, rfl, ht, rfl⟩ | ⟨c, n, y, bb, rfl, ht, hy, rfl⟩
        · refine ⟨_, rfl, c, _, 0, _, rfl, rfl, ht, rfl, rfl, _, rfl, iteS rfl ?_⟩
          refine ⟨_, rfl, _, rfl, c, _, 1, _, rfl, rfl, ht, rfl, _, _, rfl, rfl, some (.ref c), ?_, rfl⟩
          rw [shP_snoc hi, shI]
          rfl
        · refine ⟨_, rfl, c, _, 0, _, rfl, rfl, ht, rfl, rfl, _, rfl, iteN v_ts ?_⟩
          refine ⟨_, rfl, c, _, 0, _, rfl, rfl, ht, rfl, rfl, _, rfl, iteN v_tr ?_⟩
          refine ⟨some (.ref c), ?_, rfl⟩
          rw [shP_snoc hi, shI, Int.add_zero]
          rfl
        · refine ⟨_, rfl, c, _, 0, _, rfl, rfl, ht, rfl, rfl, _, rfl, iteN v_rs ?_⟩
          refine ⟨_, rfl, c, _, 0, _, rfl, rfl, ht, rfl, rfl, _, rfl, iteS rfl ?_⟩
          have hdi := dpP_mem hm
          rw [dpI] at hdi
          have wi := WP_mem hw hm
          rw [WI] at wi
          refine ⟨_, rfl, _, rfl, c, _, 1, _, rfl, rfl, ht, rfl, _, rfl, c, _, 2, _, rfl, rfl, ht, rfl, y, bb, rfl, hy, by omega, by omega, wi.2.2, wi.2.1, n, shP bb, rfl, rfl, wide_mul (a := 101) (b := 331) (Nat.lt_of_le_of_lt wi.1 (by decide +kernel)) (sh_lt (k := k) (by omega) (by omega) wi.2.2 wi.2.1) (by decide) (by decide) (by decide), _, _, rfl, rfl, some (.ref c), ?_, rfl⟩
          rw [shP_snoc hi, shI]
          rfl
      · rintro σ H2 ⟨y, rfl, rfl⟩
        rw [hI.len, List.take_length]
        exact ⟨_, rfl, q⟩
    · refine ⟨_, (pss_cons (ps_set (i := 1) nd rfl (.inl rfl) pe_int)
    (pss_cons (ps_for PassesOwn.never rfl (pi_tup (pv 0)) (pg_name (i := 2) nd rfl (.inl rfl))
      (pss_one (ps_if (pt_cmpR op_eq (pe_ix ix_tup (pv 2) pe_int (fun _ _ => rfl)) pe_str (nomark _))
      (pss_one (ps_aug (i := 1) nd rfl (.inl rfl) (pe_ix ix_tup (pv 2) pe_int (fun _ _ => rfl)) ip_add))
      (pss_one (ps_if (pt_cmpR op_eq (pe_ix ix_tup (pv 2) pe_int (fun _ _ => rfl)) pe_str (nomark _))
      (pss_one (ps_aug (i := 1) nd rfl (.inl rfl) (pe_op op_mulW (pe_ix ix_tup (pv 2) pe_int (fun _ _ => rfl)) (pe_c C_shift_of hr (by omega) (by rfl) (pa_cons (pe_ix ix_tup (pv 2) pe_int (fun _ _ => rfl)) pa_nil))) ip_add))
      pss_nil)))))
    (pss_one (ps_ret (pv 1))))), ?_⟩
      refine ⟨_, rfl, a, rfl, ⟨_, hs⟩, for_tup (K := K) (a := a) (xs := xs) (fun j σ H2 => ∃ y, σ = [some (.ref a), some (.int (shP (b.take j))), y] ∧ H2 = H) ⟨none, by rw [List.take_zero, shP_nil]; rfl, rfl⟩ ?_ ?_ ?_⟩
      · rintro j σ H2 _ ⟨y, _, rfl⟩
        exact hs
      · rintro j x σ H2 hj ⟨y, rfl, rfl⟩
        obtain ⟨i, hi, hx⟩ := hI.get hj
        have hm := List.mem_of_getElem? hi
        rcases hx.inv with ⟨c, n, rfl, ht, rfl⟩ | ⟨c, n, rfl, ht, rfl⟩ | ⟨c, n, y, bb, rfl, ht, hy, rfl⟩
        · refine ⟨_, rfl, c, _, 0, _, rfl, rfl, ht, rfl, rfl, _, rfl, iteS rfl ?_⟩
          refine ⟨_, rfl, _, rfl, c, _, 1, _, rfl, rfl, ht, rfl, _, _, rfl, rfl, some (.ref c), ?_, rfl⟩
          rw [shP_snoc hi, shI]
          rfl
        · refine ⟨_, rfl, c, _, 0, _, rfl, rfl, ht, rfl, rfl, _, rfl, iteN v_ts ?_⟩
          refine ⟨_, rfl, c, _, 0, _, rfl, rfl, ht, rfl, rfl, _, rfl, iteN v_tr ?_⟩
          refine ⟨some (.ref c), ?_, rfl⟩
          rw [shP_snoc hi, shI, Int.add_zero]
          rfl
        · refine ⟨_, rfl, c, _, 0, _, rfl, rfl, ht, rfl, rfl, _, rfl, iteN v_rs ?_⟩
          refine ⟨_, rfl, c, _, 0, _, rfl, rfl, ht, rfl, rfl, _, rfl, iteS rfl ?_⟩
          have hdi := dpP_mem hm
          rw [dpI] at hdi
          have wi := WP_mem hw hm
          rw [WI] at wi
          refine ⟨_, rfl, _, rfl, c, _, 1, _, rfl, rfl, ht, rfl, _, rfl, c, _, 2, _, rfl, rfl, ht, rfl, y, bb, rfl, hy, by omega, by omega, wi.2.2, wi.2.1, n, shP bb, rfl, rfl, wide_mul (a := 101) (b := 331) (Nat.lt_of_le_of_lt wi.1 (by decide +kernel)) (sh_lt (k := k) (by omega) (by omega) wi.2.2 wi.2.1) (by decide) (by decide) (by decide), _, _, rfl, rfl, some (.ref c), ?_, rfl⟩
          rw [shP_snoc hi, shI]
          rfl
      · rintro σ H2 ⟨y, rfl, rfl⟩
        rw [hI.len, List.take_length]
        exact ⟨_, rfl, q⟩
theorem sc_repeated : FnScope ["term", "count", "stride", "place", "coefficient", "rounds"] ["term", "count", "stride"] (defScope s_repeated) := ⟨rfl, rfl, rfl, by decide +kernel, rfl, by decide +kernel, by decide +kernel⟩
theorem ok_repeated {f : Addr} {fd : FuncData} (F : Fun K "repeated" "repeated" s_repeated f fd) (B : Blt mg) : FnOk P w K mg base CX0 1 f fd ["term", "count", "stride"] (sp_repeated K) := by
  refine F.ok sc_repeated (fun vs H Q E h => ?_) (fun cdv A outer s H vs Q E hr h => ?_)
  · obtain ⟨v, t, n, s, k, T, pl, rfl, _⟩ := h
    rfl
  · obtain ⟨v, t, n, s, k, T, pl, rfl, ⟨a, x, rfl, hs, hx⟩, ok, hk, hn, hn2, hsT, hsb, q⟩ := h
    have nd := sc_repeated.nd
    have hT0 : 0 ≤ T := by omega
    have hTn : T ≤ n * T := by
      have := Int.mul_le_mul_of_nonneg_right hn hT0
      rw [Int.one_mul] at this
      exact this
    have hnb : n.natAbs ≤ 2 ^ 100 := by omega
    have hcn : (t.co * n).natAbs ≤ 2 ^ (100 * (k + 1)) := by
      rw [Int.natAbs_mul, Nat.mul_add, Nat.pow_add]
      exact Nat.mul_le_mul ok.co hnb
    have hco : t.co.natAbs < 2 ^ 301 := Nat.lt_of_le_of_lt ok.co (Nat.lt_of_le_of_lt (pow_le2 (show 100 * k ≤ 300 by omega)) (by decide +kernel))
    have hnl : n.natAbs < 2 ^ 101 := Nat.lt_of_le_of_lt hnb (by decide +kernel)
    have same : ∀ (u : Addr) , H u = none → Repd t n s ⟨t.pl, t.co * n, t.rs⟩ → Q (.ref u) (upd H u (.tup [.int t.pl, .int (t.co * n), x])) := fun u nu hR =>
      q (.ref u) _ ⟨t.pl, t.co * n, t.rs⟩ (same_new nu) ⟨u, x, rfl, SqT.of upd_same, hx.tp (tp_new nu)⟩ hR ⟨Int.le_trans ok.at_ hTn, hcn, Nat.le_trans ok.len (by omega), ok.rs⟩
    refine ⟨_, (pss_cons (ps_asg (pv 0) (pg_tup rfl (pgs_cons (pg_name (i := 3) nd rfl (.inl rfl)) (pgs_cons (pg_name (i := 4) nd rfl (.inl rfl)) (pgs_cons (pg_name (i := 5) nd rfl (.inl rfl)) pgs_nil)))))
    (pss_cons (ps_if (PW.pt (pw_or (pt_cmpR op_eq (pv 2) pe_int (nomark _)) (pw_or1 (pt_cmpR op_eq (pv 1) pe_int (nomark _)))))
      (pss_one (ps_ret (pe_tup (pa_cons (pv 3) (pa_cons (pe_op op_mulW (pv 4) (pv 1)) (pa_cons (pv 5) pa_nil))))))
      pss_nil)
    (pss_cons (ps_if (pt_cmpR op_lt (pv 2) pe_int (nomark _))
      (pss_one (ps_aug (i := 3) nd rfl (.inl rfl) (pe_op op_mulW (pe_op op_sub (pv 1) pe_int) (pv 2)) ip_add))
      pss_nil)
    (pss_one (ps_ret (pe_tup (pa_cons (pv 3) (pa_cons (pv 4) (pa_cons (pe_callTy call_tuple_of (by rfl) B.tuple (by decide +kernel) (pa_cons (pe_callB cr_sortTP (by rfl) B.sorted (by decide +kernel) (pa_cons (pe_op op_catA (pv 5) (pe_tup (pa_cons (pe_tup (pa_cons (pv 1) (pa_cons (pe_callB call_abs (by rfl) B.abs (by decide +kernel) (pa_cons (pv 2) pa_nil)) pa_nil))) pa_nil))) pa_nil)) pa_nil)) pa_nil))))))))), ?_⟩
    refine ⟨_, rfl, a, _, rfl, hs, rfl, _, _, rfl, _, _, rfl, _, _, rfl, rfl, ?_⟩
    refine ⟨_, rfl, rfl, _, rfl, ?_⟩
    by_cases h0 : s = 0
    · refine iteS (by rw [h0]) (iteT ?_)
      refine ⟨_, rfl, _, rfl, _, rfl, t.co, n, rfl, rfl, wide_mul hco hnl (by decide) (by decide) (by decide), _, rfl, sl_of (show 3 ≤ 1000000 by decide), fun u nu => same u nu ?_⟩
      rw [h0]
      exact repd_zero (by omega)
    refine iteN (fun z => h0 (by injection z)) ?_
    refine ⟨_, rfl, rfl, _, rfl, ?_⟩
    by_cases h1 : n = 1
    · refine iteS (by rw [h1]) ?_
      refine ⟨_, rfl, _, rfl, _, rfl, t.co, n, rfl, rfl, wide_mul hco hnl (by decide) (by decide) (by decide), _, rfl, sl_of (show 3 ≤ 1000000 by decide), fun u nu => same u nu ?_⟩
      rw [h1]
      exact repd_one
    refine iteN (fun z => h1 (by injection z)) ?_
    obtain ⟨b, xs, rfl, hb, hP⟩ := id hx
    have hxl := hP.len
    have hrl := ok.len
    refine ⟨_, rfl, s, 0, rfl, rfl, _, rfl, ?_⟩
    by_cases h2 : s < 0
    · refine iteS h2 ?_
      refine ⟨_, rfl, _, rfl, n, 1, rfl, rfl, _, rfl, n - 1, s, rfl, rfl, wide_mul (a := 101) (b := 332) (by omega) (Nat.lt_of_le_of_lt hsb (by decide +kernel)) (by decide) (by decide) (by decide), _, _, rfl, rfl, ?_⟩
      refine ⟨_, rfl, _, rfl, _, rfl, _, rfl, _, rfl, s, rfl, ?_⟩
      rw [show (if s < 0 then -s else s) = -s by exact if_pos h2]
      refine ⟨sl_of (show 2 ≤ 1000000 by decide), fun p1 n1 => ?_⟩
      have z1 := same_new n1 (o := HO.tup [V.int n, V.int (-s)])
      refine ⟨sl_of (show 1 ≤ 1000000 by decide), fun p2 n2 => ?_⟩
      have z2 := same_new n2 (o := HO.tup [V.ref p1])
      have S2 := z1.trans z2
      have ip : IsPr K (upd (upd H p1 (HO.tup [V.int n, V.int (-s)])) p2 (HO.tup [V.ref p1])) (V.ref p1) (n, -s) := ⟨p1, rfl, same_t z2 (SqT.of upd_same)⟩
      have fin : ∀ (H5 : Hp) (c : Addr) (zs : List V), Same H H5 → SqT K H5 c zs → Prs K H5 zs (t.rs ++ [(n, -s)]) → ∃ a' xs', [V.ref c] = [V.ref a'] ∧ SqT K H5 a' xs' ∧ (∀ x ∈ xs', ∃ t i j, x = V.ref t ∧ SqT K H5 t [.int i, .int j]) ∧ ∀ ys p, ys.Perm xs' → H5 p = none → ∃ p' ys', [V.ref p] = [V.ref p'] ∧ ((SqL K (upd H5 p (.lst ys)) p' ys' ∧ ∀ l, (upd H5 p (.lst ys)) l = none → (sl3 : 3 ≤ sizeLine) → ∀ u, (upd (upd H5 p (.lst ys)) l (.tup ys')) u = none → Q (.ref u) (upd (upd (upd H5 p (.lst ys)) l (.tup ys')) u (.tup [.int (t.pl + (n - 1) * s), .int t.co, .ref l]))) ∨ False) := fun H5 c zs s5 hc hz => by
        refine ⟨c, zs, rfl, hc, fun y hy => ?_, fun ys p pm np => ⟨p, ys, rfl, .inl ⟨SqL.of upd_same, fun l nl _ u nu => ?_⟩⟩⟩
        · obtain ⟨i, hi⟩ := List.getElem?_of_mem hy
          obtain ⟨tt, _, w', e, hw⟩ := hz.get hi
          exact ⟨w', tt.1, tt.2, e, hw⟩
        · obtain ⟨g, hg, hgp⟩ := prs_perm pm hz
          have w1 := same_new np (o := HO.lst ys)
          have w2 := same_new nl (o := HO.tup ys)
          have w3 := same_new nu (o := HO.tup [V.int (t.pl + (n - 1) * s), V.int t.co, V.ref l])
          have hg3 : TPol K _ (.ref l) g := ⟨l, ys, rfl, same_t w3 (SqT.of (upd_same (o := HO.tup ys))), Prs.tp (Same.tp (w1.trans (w2.trans w3))) hg⟩
          refine q (.ref u) _ ⟨t.pl + (n - 1) * s, t.co, g⟩ (s5.trans (w1.trans (w2.trans w3))) ⟨u, _, rfl, SqT.of upd_same, hg3⟩ (repd_neg (by omega) hgp) ⟨?_, Nat.le_trans ok.co (pow_le2 (by omega)), ?_, fun r hr => ?_⟩
          · have h5 : ((n - 1) * s).natAbs ≤ ((n - 1) * T).natAbs := by
              rw [Int.natAbs_mul, Int.natAbs_mul]
              exact Nat.mul_le_mul_left _ (by omega)
            have h6 : 0 ≤ (n - 1) * T := Int.mul_nonneg (by omega) hT0
            have h7 := ok.at_
            have h8 : n * T = (n - 1) * T + T := by rw [Int.sub_mul, Int.one_mul]; omega
            show ((t.pl + (n - 1) * s - pl).natAbs : Int) ≤ n * T
            omega
          · show g.length + 1 ≤ k + 1
            have := hgp.length_eq
            rw [List.length_append] at this
            have : [(n, -s)].length = 1 := rfl
            omega
          · rcases List.mem_append.mp (hgp.mem_iff.mp hr) with z | z
            · exact ok.rs r z
            · have e : r = (n, -s) := by simpa using z
              rw [e]
              exact ⟨hn, hn2, by show 1 ≤ -s; omega, by show -s ≤ 2 ^ 331; omega⟩
      cases xs with
      | nil =>
        have hrs0 : t.rs = [] := List.length_eq_zero_iff.mp hxl.symm
        obtain ⟨a', xs', e, f1, f2, f3⟩ := fin _ p2 [V.ref p1] S2 (SqT.of upd_same) (by rw [hrs0]; exact .cons ip .nil)
        refine ⟨b, p2, [], _, rfl, rfl, same_t S2 hb, SqT.of upd_same, sl_of (show 0 + 1 ≤ 1000000 by decide), (fun _ => ⟨a', xs', e, f1, f2, fun ys p pm np => ?_⟩), (fun z => absurd rfl z), fun z => absurd rfl z⟩
        obtain ⟨p', ys', e2, g⟩ := f3 ys p pm np
        refine ⟨p', ys', e2, .inl ⟨(g.resolve_right id).1, fun l nl => ⟨sl_of (show 3 ≤ 1000000 by decide), fun u nu => (g.resolve_right id).2 l nl (sl_of (show 3 ≤ 1000000 by decide)) u nu⟩⟩⟩
      | cons x0 xs =>
        refine ⟨b, p2, x0 :: xs, _, rfl, rfl, same_t S2 hb, SqT.of upd_same, sl_of (show (x0 :: xs).length + 1 ≤ 1000000 by omega), (fun z => by cases z), (fun _ z => by cases z), fun _ _ p3 n3 => ?_⟩
        have z3 := same_new n3 (o := HO.tup ((x0 :: xs) ++ [V.ref p1]))
        obtain ⟨a', xs', e, f1, f2, f3⟩ := fin _ p3 ((x0 :: xs) ++ [V.ref p1]) (S2.trans z3) (SqT.of upd_same) (Prs.app (Prs.tp (Same.tp (S2.trans z3)) hP) (.cons (ip.tp (Same.tp z3)) .nil))
        refine ⟨a', xs', e, f1, f2, fun ys p pm np => ?_⟩
        obtain ⟨p', ys', e2, g⟩ := f3 ys p pm np
        refine ⟨p', ys', e2, .inl ⟨(g.resolve_right id).1, fun l nl => ⟨sl_of (show 3 ≤ 1000000 by decide), fun u nu => (g.resolve_right id).2 l nl (sl_of (show 3 ≤ 1000000 by decide)) u nu⟩⟩⟩
    · refine iteN h2 ?_
      refine ⟨_, rfl, _, rfl, _, rfl, _, rfl, _, rfl, s, rfl, ?_⟩
      rw [show (if s < 0 then -s else s) = s by exact if_neg h2]
      refine ⟨sl_of (show 2 ≤ 1000000 by decide), fun p1 n1 => ?_⟩
      have z1 := same_new n1 (o := HO.tup [V.int n, V.int (s)])
      refine ⟨sl_of (show 1 ≤ 1000000 by decide), fun p2 n2 => ?_⟩
      have z2 := same_new n2 (o := HO.tup [V.ref p1])
      have S2 := z1.trans z2
      have ip : IsPr K (upd (upd H p1 (HO.tup [V.int n, V.int (s)])) p2 (HO.tup [V.ref p1])) (V.ref p1) (n, s) := ⟨p1, rfl, same_t z2 (SqT.of upd_same)⟩
      have fin : ∀ (H5 : Hp) (c : Addr) (zs : List V), Same H H5 → SqT K H5 c zs → Prs K H5 zs (t.rs ++ [(n, s)]) → ∃ a' xs', [V.ref c] = [V.ref a'] ∧ SqT K H5 a' xs' ∧ (∀ x ∈ xs', ∃ t i j, x = V.ref t ∧ SqT K H5 t [.int i, .int j]) ∧ ∀ ys p, ys.Perm xs' → H5 p = none → ∃ p' ys', [V.ref p] = [V.ref p'] ∧ ((SqL K (upd H5 p (.lst ys)) p' ys' ∧ ∀ l, (upd H5 p (.lst ys)) l = none → (sl3 : 3 ≤ sizeLine) → ∀ u, (upd (upd H5 p (.lst ys)) l (.tup ys')) u = none → Q (.ref u) (upd (upd (upd H5 p (.lst ys)) l (.tup ys')) u (.tup [.int (t.pl), .int t.co, .ref l]))) ∨ False) := fun H5 c zs s5 hc hz => by
        refine ⟨c, zs, rfl, hc, fun y hy => ?_, fun ys p pm np => ⟨p, ys, rfl, .inl ⟨SqL.of upd_same, fun l nl _ u nu => ?_⟩⟩⟩
        · obtain ⟨i, hi⟩ := List.getElem?_of_mem hy
          obtain ⟨tt, _, w', e, hw⟩ := hz.get hi
          exact ⟨w', tt.1, tt.2, e, hw⟩
        · obtain ⟨g, hg, hgp⟩ := prs_perm pm hz
          have w1 := same_new np (o := HO.lst ys)
          have w2 := same_new nl (o := HO.tup ys)
          have w3 := same_new nu (o := HO.tup [V.int (t.pl), V.int t.co, V.ref l])
          have hg3 : TPol K _ (.ref l) g := ⟨l, ys, rfl, same_t w3 (SqT.of (upd_same (o := HO.tup ys))), Prs.tp (Same.tp (w1.trans (w2.trans w3))) hg⟩
          refine q (.ref u) _ ⟨t.pl, t.co, g⟩ (s5.trans (w1.trans (w2.trans w3))) ⟨u, _, rfl, SqT.of upd_same, hg3⟩ (repd_pos hgp) ⟨?_, Nat.le_trans ok.co (pow_le2 (by omega)), ?_, fun r hr => ?_⟩
          · exact Int.le_trans ok.at_ hTn
          · show g.length + 1 ≤ k + 1
            have := hgp.length_eq
            rw [List.length_append] at this
            have : [(n, s)].length = 1 := rfl
            omega
          · rcases List.mem_append.mp (hgp.mem_iff.mp hr) with z | z
            · exact ok.rs r z
            · have e : r = (n, s) := by simpa using z
              rw [e]
              exact ⟨hn, hn2, by show 1 ≤ s; omega, by show s ≤ 2 ^ 331; omega⟩
      cases xs with
      | nil =>
        have hrs0 : t.rs = [] := List.length_eq_zero_iff.mp hxl.symm
        obtain ⟨a', xs', e, f1, f2, f3⟩ := fin _ p2 [V.ref p1] S2 (SqT.of upd_same) (by rw [hrs0]; exact .cons ip .nil)
        refine ⟨b, p2, [], _, rfl, rfl, same_t S2 hb, SqT.of upd_same, sl_of (show 0 + 1 ≤ 1000000 by decide), (fun _ => ⟨a', xs', e, f1, f2, fun ys p pm np => ?_⟩), (fun z => absurd rfl z), fun z => absurd rfl z⟩
        obtain ⟨p', ys', e2, g⟩ := f3 ys p pm np
        refine ⟨p', ys', e2, .inl ⟨(g.resolve_right id).1, fun l nl => ⟨sl_of (show 3 ≤ 1000000 by decide), fun u nu => (g.resolve_right id).2 l nl (sl_of (show 3 ≤ 1000000 by decide)) u nu⟩⟩⟩
      | cons x0 xs =>
        refine ⟨b, p2, x0 :: xs, _, rfl, rfl, same_t S2 hb, SqT.of upd_same, sl_of (show (x0 :: xs).length + 1 ≤ 1000000 by omega), (fun z => by cases z), (fun _ z => by cases z), fun _ _ p3 n3 => ?_⟩
        have z3 := same_new n3 (o := HO.tup ((x0 :: xs) ++ [V.ref p1]))
        obtain ⟨a', xs', e, f1, f2, f3⟩ := fin _ p3 ((x0 :: xs) ++ [V.ref p1]) (S2.trans z3) (SqT.of upd_same) (Prs.app (Prs.tp (Same.tp (S2.trans z3)) hP) (.cons (ip.tp (Same.tp z3)) .nil))
        refine ⟨a', xs', e, f1, f2, fun ys p pm np => ?_⟩
        obtain ⟨p', ys', e2, g⟩ := f3 ys p pm np
        refine ⟨p', ys', e2, .inl ⟨(g.resolve_right id).1, fun l nl => ⟨sl_of (show 3 ≤ 1000000 by decide), fun u nu => (g.resolve_right id).2 l nl (sl_of (show 3 ≤ 1000000 by decide)) u nu⟩⟩⟩
theorem sc_terms_of : FnScope ["program", "place", "terms", "instruction", "word", "count", "stride", "term"] ["program", "place"] (defScope s_terms_of) := ⟨rfl, rfl, rfl, by decide +kernel, rfl, by decide +kernel, by decide +kernel⟩
theorem Paired.imp' {α β : Type} {R S : α → β → Prop} (h : ∀ a b, R a b → S a b) : ∀ {xs : List α} {ys : List β}, Paired R xs ys → Paired S xs ys
  | _, _, .nil => .nil
  | _, _, .cons r q => .cons (h _ _ r) (Paired.imp' h q)
theorem paired_mem {α β : Type} {R : α → β → Prop} : ∀ {xs : List α} {ys : List β} {y : β}, Paired R xs ys → y ∈ ys → ∃ x, x ∈ xs ∧ R x y
  | _, _, _, .nil, h => absurd h List.not_mem_nil
  | _, _, y, .cons r q, h => by
    rcases List.mem_cons.mp h with e | e
    · subst e
      exact ⟨_, List.mem_cons_self, r⟩
    · obtain ⟨x, hx, hr⟩ := paired_mem q e
      exact ⟨x, List.mem_cons_of_mem _ hx, hr⟩
theorem ok_terms_of (k : Nat) (C_terms_of : Cal P w K mg base (k + 3) "terms_of" (sp_terms_of K k)) {f : Addr} {fd : FuncData} (F : Fun K "terms_of" "terms_of" s_terms_of f fd) (B : Blt mg) (C_shift_of : Cal P w K mg base (3 + 0) "shift_of" (sp_shift_of K 3)) (C_repeated : Cal P w K mg base 1 "repeated" (sp_repeated K)) : FnOk P w K mg base CX0 (k + 3 + 1) f fd ["program", "place"] (sp_terms_of K (k + 1)) := by
  refine F.ok sc_terms_of (fun vs H Q E h => ?_) (fun cdv A outer s H vs Q E hr h => ?_)
  · obtain ⟨v, pl, b, rfl, _⟩ := h
    rfl
  · obtain ⟨v, pl, b, rfl, hv, hd, hk, hw, hn, hc, q⟩ := h
    have nd := sc_terms_of.nd
    obtain ⟨a, xs, rfl, hsq, hI⟩ := hv.inv
    have hlb : b.length ≤ 1024 := Nat.le_trans (len_cnP b) hc
    rcases hsq with hs | hs
    · refine ⟨_, (pss_cons (ps_set (i := 2) nd rfl (.inl rfl) (pe_lst pa_nil))
    (pss_cons (ps_for PassesOwn.never rfl (pi_list (pv 0)) (pg_name (i := 3) nd rfl (.inl rfl))
      (pss_cons (ps_asg (pe_tup (pa_cons (pe_ix ix_tup (pv 3) pe_int (fun _ _ => rfl)) (pa_cons (pe_ix ix_tup (pv 3) pe_int (fun _ _ => rfl)) pa_nil))) (pg_tup rfl (pgs_cons (pg_name (i := 4) nd rfl (.inl rfl)) (pgs_cons (pg_name (i := 5) nd rfl (.inr rfl)) pgs_nil))))
    (pss_one (ps_if (pt_cmpR op_eq (pv 4) pe_str (nomark _))
      (pss_one (ps_aug (i := 1) nd rfl (.inl rfl) (pv 5) ip_add))
      (pss_one (ps_if (pt_cmpR op_eq (pv 4) pe_str (nomark _))
      (pss_one (ps_expr (pe_bm PySem.F.plainAttrs_list PySem.F.slot_list_append PySem.F.type_list_append mt_append (pv 2) (pa_cons (pe_tup (pa_cons (pv 1) (pa_cons (pv 5) (pa_cons (pe_tup pa_nil) pa_nil)))) pa_nil))))
      (pss_one (ps_if (pt_cmpR op_gt (pv 5) pe_int (nomark _))
      (pss_cons (ps_set (i := 6) nd rfl (.inr rfl) (pe_c C_shift_of hr (by omega) (by rfl) (pa_cons (pe_ix ix_tup (pv 3) pe_int (fun _ _ => rfl)) pa_nil)))
    (pss_cons (ps_expr (pe_bm PySem.F.plainAttrs_list PySem.F.slot_list_extend PySem.F.type_list_extend mt_extend (pv 2) (pa_cons (pe_lc (own := [("term", 7)]) (by rfl) nd (pi_list (pe_c C_terms_of hr (by omega) (by rfl) (pa_cons (pe_ix ix_tup (pv 3) pe_int (fun _ _ => rfl)) (pa_cons (pv 1) pa_nil)))) (blkOk_by (N := ["program", "place", "terms", "instruction", "word", "count", "stride", "term"]) (sc := defScope s_terms_of) (own := [("term", 7)]) (by decide +kernel)) (fun _ _ _ _ _ => (pg_name (i := 7) nd rfl (.inl rfl))) (fun _ _ _ _ _ => pts_nil) (fun _ _ _ _ _ => (pe_c C_repeated hr (by omega) (by rfl) (pa_cons (pv 7) (pa_cons (pv 5) (pa_cons (pv 6) pa_nil)))))) pa_nil)))
    (pss_one (ps_aug (i := 1) nd rfl (.inl rfl) (pe_op op_mulW (pv 5) (pv 6)) ip_add))))
      pss_nil))))))))
    (pss_one (ps_ret (pv 2))))), ?_⟩
      refine ⟨Nat.zero_le _, fun D nD => ?_⟩
      have s1 := same_new nD (o := HO.lst [])
      refine ⟨_, rfl, a, rfl, ⟨_, same_l s1 hs⟩, for_list (K := K) (a := a) (xs := xs) (fun j σ H2 => ∃ (ys : List V) (ts : List Tm) (y3 y4 y5 y6 y7 : Option V), σ = [some (.ref a), some (.int (pl + shP (b.take j))), some (.ref D), y3, y4, y5, y6, y7] ∧ Same H H2 ∧ H2 D = some (.lst ys) ∧ TVs K H2 ys ts ∧ (∀ x, tvs ts x = seP (b.take j) (x - pl)) ∧ (∀ t ∈ ts, TOk (k + 1) (trP b) pl t) ∧ ts.length ≤ cnP (b.take j)) ⟨[], [], none, none, none, none, none, by rw [List.take_zero, shP_nil, Int.add_zero]; rfl, s1, upd_same, .nil, fun x => by rw [List.take_zero, seP_nil]; rfl, fun t h => absurd h List.not_mem_nil, Nat.zero_le _⟩ ?_ ?_ ?_⟩
      · rintro j σ H2 _ ⟨_, _, _, _, _, _, _, _, s2, _⟩
        exact same_l s2 hs
      · rintro j x σ H2 hj ⟨ys, ts, y3, y4, y5, y6, y7, rfl, s2, hD2, hT, hval, hok, hlen⟩
        obtain ⟨i, hi, hx0⟩ := hI.get hj
        have hm := List.mem_of_getElem? hi
        have hcj := cnP_take' b j
        have hcs := cnP_snoc' hi
        have hcj1 := cnP_take' b (j + 1)
        have htk := trP_take b (j + 1)
        have hts := trP_snoc hi
        have hsh := shP_tr (b.take j)
        have wi := WP_mem hw hm
        have hyl := hT.len
        rcases hx0.inv with ⟨e, c, rfl, ht0, rfl⟩ | ⟨e, c, rfl, ht0, rfl⟩ | ⟨e, c, y, bb, rfl, ht0, hy0, rfl⟩
        · have ht := same_t s2 ht0
          refine ⟨_, rfl, e, _, 0, _, rfl, rfl, ht, rfl, _, rfl, e, _, 1, _, rfl, rfl, ht, rfl, sl_of (show 2 ≤ 1000000 by decide), fun w0 nw0 => ?_⟩
          have z0 := same_new nw0 (o := HO.tup [V.str "step", V.int c])
          refine ⟨w0, _, rfl, SqT.of upd_same, rfl, _, _, rfl, _, _, rfl, rfl, ?_⟩
          refine ⟨_, rfl, rfl, _, rfl, iteS rfl ?_⟩
          refine ⟨_, rfl, _, rfl, _, _, rfl, rfl, ys, ts, some (.ref e), some (.str "step"), some (.int c), y6, y7, ?_, s2.trans z0, z0 _ _ hD2, hT.tp (Same.tp z0), fun x => ?_, hok, by omega⟩
          · rw [shP_snoc hi, shI, ← Int.add_assoc]
            rfl
          · rw [seP_snoc hi, seI, Int.add_zero]
            exact hval x
        · have ht := same_t s2 ht0
          refine ⟨_, rfl, e, _, 0, _, rfl, rfl, ht, rfl, _, rfl, e, _, 1, _, rfl, rfl, ht, rfl, sl_of (show 2 ≤ 1000000 by decide), fun w0 nw0 => ?_⟩
          have z0 := same_new nw0 (o := HO.tup [V.str "turn", V.int c])
          refine ⟨w0, _, rfl, SqT.of upd_same, rfl, _, _, rfl, _, _, rfl, rfl, ?_⟩
          refine ⟨_, rfl, rfl, _, rfl, iteN v_ts ?_⟩
          refine ⟨_, rfl, rfl, _, rfl, iteS rfl ?_⟩
          have hD3 := z0 _ _ hD2
          refine ⟨_, rfl, .inl ⟨rfl, _, SqL.of hD3⟩, _, rfl, _, rfl, Nat.zero_le _, fun e0 ne0 => ?_⟩
          have z1 := same_new ne0 (o := HO.tup [])
          refine ⟨sl_of (show 3 ≤ 1000000 by decide), fun t0 nt0 => ?_⟩
          have z2 := same_new nt0 (o := HO.tup [V.int (pl + shP (b.take j)), V.int c, V.ref e0])
          have hD4 := (z1.trans z2) _ _ hD3
          rw [WI] at wi
          rw [cnI] at hcs
          refine ⟨D, ys, _, rfl, rfl, hD4, sl_lt (by omega), ?_⟩
          have t3 : Tp (upd (upd (upd H2 w0 (HO.tup [V.str "turn", V.int c])) e0 (HO.tup [])) t0 (HO.tup [V.int (pl + shP (b.take j)), V.int c, V.ref e0])) (upd (upd (upd (upd H2 w0 (HO.tup [V.str "turn", V.int c])) e0 (HO.tup [])) t0 (HO.tup [V.int (pl + shP (b.take j)), V.int c, V.ref e0])) D (.lst (ys ++ [.ref t0]))) := tp_lst hD4
          have hnew : TermV K (upd (upd (upd H2 w0 (HO.tup [V.str "turn", V.int c])) e0 (HO.tup [])) t0 (HO.tup [V.int (pl + shP (b.take j)), V.int c, V.ref e0])) (.ref t0) ⟨pl + shP (b.take j), c, []⟩ := ⟨t0, _, rfl, SqT.of upd_same, e0, [], rfl, same_t z2 (SqT.of upd_same), .nil⟩
          refine ⟨ys ++ [.ref t0], ts ++ [⟨pl + shP (b.take j), c, []⟩], some (.ref e), some (.str "turn"), some (.int c), y6, y7, ?_, same_mut (s2.trans (z0.trans (z1.trans z2))) nD, upd_same, TVs.app (hT.tp ((Same.tp (z0.trans (z1.trans z2))).trans t3)) (.cons (hnew.tp t3) .nil), fun x => ?_, fun t h => ?_, ?_⟩
          · rw [shP_snoc hi, shI, Int.add_zero]
            rfl
          · rw [tvs_app, hval, seP_snoc hi, seI]
            congr 1
            show c * (if x - (pl + shP (b.take j)) = 0 then 1 else 0) + 0 = _
            rw [Int.add_zero]
            by_cases hx : x - (pl + shP (b.take j)) = 0
            · rw [if_pos hx, if_pos (by omega), Int.mul_one]
            · rw [if_neg hx, if_neg (by omega), Int.mul_zero]
          · rcases List.mem_append.mp h with z | z
            · exact hok t z
            · cases List.mem_singleton.mp z
              refine ⟨?_, Nat.le_trans wi (pow_le2 (by omega)), by show 0 + 1 ≤ k + 1; omega, fun r hr => absurd hr List.not_mem_nil⟩
              show ((pl + shP (b.take j) - pl).natAbs : Int) ≤ trP b
              have := trP_take b j
              omega
          · rw [List.length_append]
            show ts.length + 1 ≤ _
            omega
        · have ht := same_t s2 ht0
          refine ⟨_, rfl, e, _, 0, _, rfl, rfl, ht, rfl, _, rfl, e, _, 1, _, rfl, rfl, ht, rfl, sl_of (show 2 ≤ 1000000 by decide), fun w0 nw0 => ?_⟩
          have z0 := same_new nw0 (o := HO.tup [V.str "repeat", V.int c])
          refine ⟨w0, _, rfl, SqT.of upd_same, rfl, _, _, rfl, _, _, rfl, rfl, ?_⟩
          refine ⟨_, rfl, rfl, _, rfl, iteN v_rs ?_⟩
          refine ⟨_, rfl, rfl, _, rfl, iteN v_rt ?_⟩
          have s3 := s2.trans z0
          have hD3 := z0 _ _ hD2
          have ht3 := same_t s3 ht0
          have hy3 := hy0.same s3
          have hni := NP_mem hn hm
          rw [NI] at hni
          rw [WI] at wi
          have hdi := dpP_mem hm
          rw [dpI] at hdi
          rw [cnI] at hcs
          rw [trI] at hts
          have hcb : cnP bb ≤ 1024 := by omega
          refine ⟨_, rfl, c, 0, rfl, rfl, _, rfl, ite2 (fun hc0 => ?_) fun hc0 => ?_⟩
          · have hc1 : 0 < c := of_decide_eq_true hc0
            have hca : ((c.natAbs : Nat) : Int) = c := by omega
            have hcn2 : ((c.toNat : Nat) : Int) = c := Int.toNat_of_nonneg hni.1
            have hsb : (shP bb).natAbs ≤ 2 ^ 331 := Nat.le_of_lt (sh_lt (k := 3) (by omega) (by decide) wi.2.2 wi.2.1)
            refine ⟨_, rfl, e, _, 2, _, rfl, rfl, ht3, rfl, y, bb, rfl, hy3, by omega, by decide, wi.2.2, wi.2.1, ?_⟩
            refine ⟨_, rfl, .inl ⟨rfl, _, SqL.of hD3⟩, ?_⟩
            dsimp only [tNext, tSeq, tCons, tNil]
            refine lcRepG (K := K) (fun t t' => Repd t c (shP bb) t' ∧ TOk (k + 1) (c * trP bb) (pl + shP (b.take j)) t') (fun us => (∀ x, tvs us x = seP bb (x - (pl + shP (b.take j)))) ∧ (∀ t ∈ us, TOk k (trP bb) (pl + shP (b.take j)) t) ∧ us.length ≤ cnP bb) (fun R r => ?_) (fun us hz => by have := hz.2.2; omega) (fun _ => rfl) (fun us hz t htm x H5 s5 hx R r => ?_) fun L H5 zs us us' nL s5 hL hZ hz hPd => ?_
            · exact ⟨_, rfl, e, _, 2, _, rfl, rfl, ht3, rfl, _, rfl, y, pl + shP (b.take j), bb, rfl, hy3, by omega, by omega, wi.2.2, hni.2, hcb, fun D2 ys2 ts2 H5 s5 nD2 hD2' hT2 hv2 hok2 hl2 => r D2 ys2 ts2 H5 s5 hD2' hT2 ⟨hv2, hok2, hl2⟩⟩
            · exact ⟨_, rfl, _, rfl, _, rfl, x, t, c, shP bb, k, trP bb, pl + shP (b.take j), rfl, hx, hz.2.1 t htm, by omega, by omega, by omega, shP_tr bb, hsb, fun u H6 t' s6 hu hR hO => r u t' H6 s6 hu ⟨hR, hO⟩⟩
            · have hD5 := s5 _ _ hD3
              have hzl := hZ.len
              have hul := Paired.length hPd
              have hl3 := hz.2.2
              have neDL : D ≠ L := ne_of_none hD3 nL
              refine ⟨D, L, ys, zs, rfl, rfl, hD5, hL, sl_of (by omega), ?_⟩
              have t6 : Tp H5 (upd H5 D (.lst (ys ++ zs))) := tp_lst hD5
              refine ⟨_, rfl, _, rfl, _, rfl, c, shP bb, rfl, rfl, wide_mul (a := 101) (b := 332) (Nat.lt_of_le_of_lt wi.1 (by decide +kernel)) (Nat.lt_of_le_of_lt hsb (by decide +kernel)) (by decide) (by decide) (by decide), _, _, rfl, rfl, ys ++ zs, ts ++ us', some (.ref e), some (.str "repeat"), some (.int c), some (.int (shP bb)), y7, ?_, same_mut (s3.trans s5) nD, upd_same, TVs.app (hT.tp ((Same.tp (z0.trans s5)).trans t6)) (hZ.tp t6), fun x => ?_, fun t h => ?_, ?_⟩
              · rw [shP_snoc hi, shI, ← Int.add_assoc]
                rfl
              · rw [tvs_app, hval, seP_snoc hi, seI, tvs_rep (n := c) (s := shP bb) (Paired.imp' (fun _ _ z => z.1) hPd), rsum_congr hz.1, rsum_move (fun z => seP bb z)]
                congr 2
                omega
              · rcases List.mem_append.mp h with z | z
                · exact hok t z
                · obtain ⟨t0, _, hRO⟩ := paired_mem hPd z
                  have hO := hRO.2
                  have h1 := hO.at_
                  refine ⟨?_, hO.co, hO.len, hO.rs⟩
                  rw [hca] at hts
                  have := trP_take b j
                  omega
              · rw [List.length_append]
                omega
          · have hc1 : c = 0 := by
              have : ¬ (0 < c) := fun z => hc0 (decide_eq_true z)
              have := hni.1
              omega
            refine ⟨ys, ts, some (.ref e), some (.str "repeat"), some (.int c), y6, y7, ?_, s3, hD3, hT.tp (Same.tp z0), fun x => ?_, hok, by omega⟩
            · rw [shP_snoc hi, shI, hc1, Int.zero_mul, Int.add_zero]
              rfl
            · rw [seP_snoc hi, seI, hc1]
              show _ = _ + 0
              rw [Int.add_zero]
              exact hval x
      · rintro σ H2 ⟨ys, ts, y3, y4, y5, y6, y7, rfl, s2, hD2, hT, hval, hok, hlen⟩
        rw [hI.len, List.take_length] at *
        exact ⟨_, rfl, q D ys ts H2 s2 nD hD2 hT hval hok hlen⟩
    · refine ⟨_, (pss_cons (ps_set (i := 2) nd rfl (.inl rfl) (pe_lst pa_nil))
    (pss_cons (ps_for PassesOwn.never rfl (pi_tup (pv 0)) (pg_name (i := 3) nd rfl (.inl rfl))
      (pss_cons (ps_asg (pe_tup (pa_cons (pe_ix ix_tup (pv 3) pe_int (fun _ _ => rfl)) (pa_cons (pe_ix ix_tup (pv 3) pe_int (fun _ _ => rfl)) pa_nil))) (pg_tup rfl (pgs_cons (pg_name (i := 4) nd rfl (.inl rfl)) (pgs_cons (pg_name (i := 5) nd rfl (.inr rfl)) pgs_nil))))
    (pss_one (ps_if (pt_cmpR op_eq (pv 4) pe_str (nomark _))
      (pss_one (ps_aug (i := 1) nd rfl (.inl rfl) (pv 5) ip_add))
      (pss_one (ps_if (pt_cmpR op_eq (pv 4) pe_str (nomark _))
      (pss_one (ps_expr (pe_bm PySem.F.plainAttrs_list PySem.F.slot_list_append PySem.F.type_list_append mt_append (pv 2) (pa_cons (pe_tup (pa_cons (pv 1) (pa_cons (pv 5) (pa_cons (pe_tup pa_nil) pa_nil)))) pa_nil))))
      (pss_one (ps_if (pt_cmpR op_gt (pv 5) pe_int (nomark _))
      (pss_cons (ps_set (i := 6) nd rfl (.inr rfl) (pe_c C_shift_of hr (by omega) (by rfl) (pa_cons (pe_ix ix_tup (pv 3) pe_int (fun _ _ => rfl)) pa_nil)))
    (pss_cons (ps_expr (pe_bm PySem.F.plainAttrs_list PySem.F.slot_list_extend PySem.F.type_list_extend mt_extend (pv 2) (pa_cons (pe_lc (own := [("term", 7)]) (by rfl) nd (pi_list (pe_c C_terms_of hr (by omega) (by rfl) (pa_cons (pe_ix ix_tup (pv 3) pe_int (fun _ _ => rfl)) (pa_cons (pv 1) pa_nil)))) (blkOk_by (N := ["program", "place", "terms", "instruction", "word", "count", "stride", "term"]) (sc := defScope s_terms_of) (own := [("term", 7)]) (by decide +kernel)) (fun _ _ _ _ _ => (pg_name (i := 7) nd rfl (.inl rfl))) (fun _ _ _ _ _ => pts_nil) (fun _ _ _ _ _ => (pe_c C_repeated hr (by omega) (by rfl) (pa_cons (pv 7) (pa_cons (pv 5) (pa_cons (pv 6) pa_nil)))))) pa_nil)))
    (pss_one (ps_aug (i := 1) nd rfl (.inl rfl) (pe_op op_mulW (pv 5) (pv 6)) ip_add))))
      pss_nil))))))))
    (pss_one (ps_ret (pv 2))))), ?_⟩
      refine ⟨Nat.zero_le _, fun D nD => ?_⟩
      have s1 := same_new nD (o := HO.lst [])
      refine ⟨_, rfl, a, rfl, ⟨_, same_t s1 hs⟩, for_tup (K := K) (a := a) (xs := xs) (fun j σ H2 => ∃ (ys : List V) (ts : List Tm) (y3 y4 y5 y6 y7 : Option V), σ = [some (.ref a), some (.int (pl + shP (b.take j))), some (.ref D), y3, y4, y5, y6, y7] ∧ Same H H2 ∧ H2 D = some (.lst ys) ∧ TVs K H2 ys ts ∧ (∀ x, tvs ts x = seP (b.take j) (x - pl)) ∧ (∀ t ∈ ts, TOk (k + 1) (trP b) pl t) ∧ ts.length ≤ cnP (b.take j)) ⟨[], [], none, none, none, none, none, by rw [List.take_zero, shP_nil, Int.add_zero]; rfl, s1, upd_same, .nil, fun x => by rw [List.take_zero, seP_nil]; rfl, fun t h => absurd h List.not_mem_nil, Nat.zero_le _⟩ ?_ ?_ ?_⟩
      · rintro j σ H2 _ ⟨_, _, _, _, _, _, _, _, s2, _⟩
        exact same_t s2 hs
      · rintro j x σ H2 hj ⟨ys, ts, y3, y4, y5, y6, y7, rfl, s2, hD2, hT, hval, hok, hlen⟩
        obtain ⟨i, hi, hx0⟩ := hI.get hj
        have hm := List.mem_of_getElem? hi
        have hcj := cnP_take' b j
        have hcs := cnP_snoc' hi
        have hcj1 := cnP_take' b (j + 1)
        have htk := trP_take b (j + 1)
        have hts := trP_snoc hi
        have hsh := shP_tr (b.take j)
        have wi := WP_mem hw hm
        have hyl := hT.len
        rcases hx0.inv with ⟨e, c, rfl, ht0, rfl⟩ | ⟨e, c, rfl, ht0, rfl⟩ | ⟨e, c, y, bb, rfl, ht0, hy0, rfl⟩
        · have ht := same_t s2 ht0
          refine ⟨_, rfl, e, _, 0, _, rfl, rfl, ht, rfl, _, rfl, e, _, 1, _, rfl, rfl, ht, rfl, sl_of (show 2 ≤ 1000000 by decide), fun w0 nw0 => ?_⟩
          have z0 := same_new nw0 (o := HO.tup [V.str "step", V.int c])
          refine ⟨w0, _, rfl, SqT.of upd_same, rfl, _, _, rfl, _, _, rfl, rfl, ?_⟩
          refine ⟨_, rfl, rfl, _, rfl, iteS rfl ?_⟩
          refine ⟨_, rfl, _, rfl, _, _, rfl, rfl, ys, ts, some (.ref e), some (.str "step"), some (.int c), y6, y7, ?_, s2.trans z0, z0 _ _ hD2, hT.tp (Same.tp z0), fun x => ?_, hok, by omega⟩
          · rw [shP_snoc hi, shI, ← Int.add_assoc]
            rfl
          · rw [seP_snoc hi, seI, Int.add_zero]
            exact hval x
        · have ht := same_t s2 ht0
          refine ⟨_, rfl, e, _, 0, _, rfl, rfl, ht, rfl, _, rfl, e, _, 1, _, rfl, rfl, ht, rfl, sl_of (show 2 ≤ 1000000 by decide), fun w0 nw0 => ?_⟩
          have z0 := same_new nw0 (o := HO.tup [V.str "turn", V.int c])
          refine ⟨w0, _, rfl, SqT.of upd_same, rfl, _, _, rfl, _, _, rfl, rfl, ?_⟩
          refine ⟨_, rfl, rfl, _, rfl, iteN v_ts ?_⟩
          refine ⟨_, rfl, rfl, _, rfl, iteS rfl ?_⟩
          have hD3 := z0 _ _ hD2
          refine ⟨_, rfl, .inl ⟨rfl, _, SqL.of hD3⟩, _, rfl, _, rfl, Nat.zero_le _, fun e0 ne0 => ?_⟩
          have z1 := same_new ne0 (o := HO.tup [])
          refine ⟨sl_of (show 3 ≤ 1000000 by decide), fun t0 nt0 => ?_⟩
          have z2 := same_new nt0 (o := HO.tup [V.int (pl + shP (b.take j)), V.int c, V.ref e0])
          have hD4 := (z1.trans z2) _ _ hD3
          rw [WI] at wi
          rw [cnI] at hcs
          refine ⟨D, ys, _, rfl, rfl, hD4, sl_lt (by omega), ?_⟩
          have t3 : Tp (upd (upd (upd H2 w0 (HO.tup [V.str "turn", V.int c])) e0 (HO.tup [])) t0 (HO.tup [V.int (pl + shP (b.take j)), V.int c, V.ref e0])) (upd (upd (upd (upd H2 w0 (HO.tup [V.str "turn", V.int c])) e0 (HO.tup [])) t0 (HO.tup [V.int (pl + shP (b.take j)), V.int c, V.ref e0])) D (.lst (ys ++ [.ref t0]))) := tp_lst hD4
          have hnew : TermV K (upd (upd (upd H2 w0 (HO.tup [V.str "turn", V.int c])) e0 (HO.tup [])) t0 (HO.tup [V.int (pl + shP (b.take j)), V.int c, V.ref e0])) (.ref t0) ⟨pl + shP (b.take j), c, []⟩ := ⟨t0, _, rfl, SqT.of upd_same, e0, [], rfl, same_t z2 (SqT.of upd_same), .nil⟩
          refine ⟨ys ++ [.ref t0], ts ++ [⟨pl + shP (b.take j), c, []⟩], some (.ref e), some (.str "turn"), some (.int c), y6, y7, ?_, same_mut (s2.trans (z0.trans (z1.trans z2))) nD, upd_same, TVs.app (hT.tp ((Same.tp (z0.trans (z1.trans z2))).trans t3)) (.cons (hnew.tp t3) .nil), fun x => ?_, fun t h => ?_, ?_⟩
          · rw [shP_snoc hi, shI, Int.add_zero]
            rfl
          · rw [tvs_app, hval, seP_snoc hi, seI]
            congr 1
            show c * (if x - (pl + shP (b.take j)) = 0 then 1 else 0) + 0 = _
            rw [Int.add_zero]
            by_cases hx : x - (pl + shP (b.take j)) = 0
            · rw [if_pos hx, if_pos (by omega), Int.mul_one]
            · rw [if_neg hx, if_neg (by omega), Int.mul_zero]
          · rcases List.mem_append.mp h with z | z
            · exact hok t z
            · cases List.mem_singleton.mp z
              refine ⟨?_, Nat.le_trans wi (pow_le2 (by omega)), by show 0 + 1 ≤ k + 1; omega, fun r hr => absurd hr List.not_mem_nil⟩
              show ((pl + shP (b.take j) - pl).natAbs : Int) ≤ trP b
              have := trP_take b j
              omega
          · rw [List.length_append]
            show ts.length + 1 ≤ _
            omega
        · have ht := same_t s2 ht0
          refine ⟨_, rfl, e, _, 0, _, rfl, rfl, ht, rfl, _, rfl, e, _, 1, _, rfl, rfl, ht, rfl, sl_of (show 2 ≤ 1000000 by decide), fun w0 nw0 => ?_⟩
          have z0 := same_new nw0 (o := HO.tup [V.str "repeat", V.int c])
          refine ⟨w0, _, rfl, SqT.of upd_same, rfl, _, _, rfl, _, _, rfl, rfl, ?_⟩
          refine ⟨_, rfl, rfl, _, rfl, iteN v_rs ?_⟩
          refine ⟨_, rfl, rfl, _, rfl, iteN v_rt ?_⟩
          have s3 := s2.trans z0
          have hD3 := z0 _ _ hD2
          have ht3 := same_t s3 ht0
          have hy3 := hy0.same s3
          have hni := NP_mem hn hm
          rw [NI] at hni
          rw [WI] at wi
          have hdi := dpP_mem hm
          rw [dpI] at hdi
          rw [cnI] at hcs
          rw [trI] at hts
          have hcb : cnP bb ≤ 1024 := by omega
          refine ⟨_, rfl, c, 0, rfl, rfl, _, rfl, ite2 (fun hc0 => ?_) fun hc0 => ?_⟩
          · have hc1 : 0 < c := of_decide_eq_true hc0
            have hca : ((c.natAbs : Nat) : Int) = c := by omega
            have hcn2 : ((c.toNat : Nat) : Int) = c := Int.toNat_of_nonneg hni.1
            have hsb : (shP bb).natAbs ≤ 2 ^ 331 := Nat.le_of_lt (sh_lt (k := 3) (by omega) (by decide) wi.2.2 wi.2.1)
            refine ⟨_, rfl, e, _, 2, _, rfl, rfl, ht3, rfl, y, bb, rfl, hy3, by omega, by decide, wi.2.2, wi.2.1, ?_⟩
            refine ⟨_, rfl, .inl ⟨rfl, _, SqL.of hD3⟩, ?_⟩
            dsimp only [tNext, tSeq, tCons, tNil]
            refine lcRepG (K := K) (fun t t' => Repd t c (shP bb) t' ∧ TOk (k + 1) (c * trP bb) (pl + shP (b.take j)) t') (fun us => (∀ x, tvs us x = seP bb (x - (pl + shP (b.take j)))) ∧ (∀ t ∈ us, TOk k (trP bb) (pl + shP (b.take j)) t) ∧ us.length ≤ cnP bb) (fun R r => ?_) (fun us hz => by have := hz.2.2; omega) (fun _ => rfl) (fun us hz t htm x H5 s5 hx R r => ?_) fun L H5 zs us us' nL s5 hL hZ hz hPd => ?_
            · exact ⟨_, rfl, e, _, 2, _, rfl, rfl, ht3, rfl, _, rfl, y, pl + shP (b.take j), bb, rfl, hy3, by omega, by omega, wi.2.2, hni.2, hcb, fun D2 ys2 ts2 H5 s5 nD2 hD2' hT2 hv2 hok2 hl2 => r D2 ys2 ts2 H5 s5 hD2' hT2 ⟨hv2, hok2, hl2⟩⟩
            · exact ⟨_, rfl, _, rfl, _, rfl, x, t, c, shP bb, k, trP bb, pl + shP (b.take j), rfl, hx, hz.2.1 t htm, by omega, by omega, by omega, shP_tr bb, hsb, fun u H6 t' s6 hu hR hO => r u t' H6 s6 hu ⟨hR, hO⟩⟩
            · have hD5 := s5 _ _ hD3
              have hzl := hZ.len
              have hul := Paired.length hPd
              have hl3 := hz.2.2
              have neDL : D ≠ L := ne_of_none hD3 nL
              refine ⟨D, L, ys, zs, rfl, rfl, hD5, hL, sl_of (by omega), ?_⟩
              have t6 : Tp H5 (upd H5 D (.lst (ys ++ zs))) := tp_lst hD5
              refine ⟨_, rfl, _, rfl, _, rfl, c, shP bb, rfl, rfl, wide_mul (a := 101) (b := 332) (Nat.lt_of_le_of_lt wi.1 (by decide +kernel)) (Nat.lt_of_le_of_lt hsb (by decide +kernel)) (by decide) (by decide) (by decide), _, _, rfl, rfl, ys ++ zs, ts ++ us', some (.ref e), some (.str "repeat"), some (.int c), some (.int (shP bb)), y7, ?_, same_mut (s3.trans s5) nD, upd_same, TVs.app (hT.tp ((Same.tp (z0.trans s5)).trans t6)) (hZ.tp t6), fun x => ?_, fun t h => ?_, ?_⟩
              · rw [shP_snoc hi, shI, ← Int.add_assoc]
                rfl
              · rw [tvs_app, hval, seP_snoc hi, seI, tvs_rep (n := c) (s := shP bb) (Paired.imp' (fun _ _ z => z.1) hPd), rsum_congr hz.1, rsum_move (fun z => seP bb z)]
                congr 2
                omega
              · rcases List.mem_append.mp h with z | z
                · exact hok t z
                · obtain ⟨t0, _, hRO⟩ := paired_mem hPd z
                  have hO := hRO.2
                  have h1 := hO.at_
                  refine ⟨?_, hO.co, hO.len, hO.rs⟩
                  rw [hca] at hts
                  have := trP_take b j
                  omega
              · rw [List.length_append]
                omega
          · have hc1 : c = 0 := by
              have : ¬ (0 < c) := fun z => hc0 (decide_eq_true z)
              have := hni.1
              omega
            refine ⟨ys, ts, some (.ref e), some (.str "repeat"), some (.int c), y6, y7, ?_, s3, hD3, hT.tp (Same.tp z0), fun x => ?_, hok, by omega⟩
            · rw [shP_snoc hi, shI, hc1, Int.zero_mul, Int.add_zero]
              rfl
            · rw [seP_snoc hi, seI, hc1]
              show _ = _ + 0
              rw [Int.add_zero]
              exact hval x
      · rintro σ H2 ⟨ys, ts, y3, y4, y5, y6, y7, rfl, s2, hD2, hT, hval, hok, hlen⟩
        rw [hI.len, List.take_length] at *
        exact ⟨_, rfl, q D ys ts H2 s2 nD hD2 hT hval hok hlen⟩
theorem sc_pairs_at : FnScope ["one", "other", "distance", "count", "stride", "number", "pace", "divisor", "factor", "period", "rest", "greatest", "least"] ["one", "other", "distance"] (defScope s_pairs_at) := ⟨rfl, rfl, rfl, by decide +kernel, rfl, by decide +kernel, by decide +kernel⟩
theorem pairs_ok {n a m b d g f : Int} (hn : 1 ≤ n) (hm : 1 ≤ m) (ha : 0 < a) (hb : 0 < b) (hg : 0 < g) (ga : g ∣ a) (gb : g ∣ b) (hf : b ∣ a * f - g) (gd : g ∣ d) :
    (if (((if d / a < n - 1 then d / a else n - 1) - d / g * f % (b / g)) / (b / g) - ((if -((b * (m - 1) - d) / a) > 0 then -((b * (m - 1) - d) / a) else 0) - 1 - d / g * f % (b / g)) / (b / g)) > 0 then ((if d / a < n - 1 then d / a else n - 1) - d / g * f % (b / g)) / (b / g) - ((if -((b * (m - 1) - d) / a) > 0 then -((b * (m - 1) - d) / a) else 0) - 1 - d / g * f % (b / g)) / (b / g) else 0) = wy [(n, a), (m, b)] d := by
  have h := wy_two (m := m.toNat) ha hb hg ga gb hf gd n.toNat
  have hP : 0 < b / g := by
    obtain ⟨P, rfl⟩ := gb
    rw [Int.mul_ediv_cancel_left P (by omega)]
    exact Int.pos_of_mul_pos_right hb (by omega)
  rw [cnt_eq hP, Int.toNat_of_nonneg (by omega), Int.toNat_of_nonneg (by omega)] at h
  show _ = rsum (fun y => rsum (fun z => if z = 0 then (1 : Int) else 0) b m.toNat y) a n.toNat d
  rw [h]
  generalize d / g * f % (b / g) = r
  generalize b / g = P
  generalize (b * (m - 1) - d) / a = u
  generalize d / a = v
  have e1 : (if v < n - 1 then v else n - 1) = min (n - 1) v := by split <;> omega
  have e2 : (if -u > 0 then -u else 0) = max 0 (-u) := by split <;> omega
  rw [e1, e2]
  split <;> omega
theorem ok_pairs_at {f : Addr} {fd : FuncData} (F : Fun K "pairs_at" "pairs_at" s_pairs_at f fd) (B : Blt mg) (C_common_divisor : Cal P w K mg base 1 "common_divisor" sp_common_divisor) : FnOk P w K mg base CX0 2 f fd ["one", "other", "distance"] (sp_pairs_at K) := by
  refine F.ok sc_pairs_at (fun vs H Q E h => ?_) (fun cdv A outer s H vs Q E hr h => ?_)
  · obtain ⟨x, y, n, a, m, b, d, rfl, _⟩ := h
    rfl
  · obtain ⟨x, y, n, a, m, b, d, rfl, ⟨p1, rfl, hx⟩, ⟨p2, rfl, hy⟩, hn, hn2, hm, hm2, ha, ha2, hb, hb2, hd, q⟩ := h
    have nd := sc_pairs_at.nd
    have lt : ∀ z : Int, 1 ≤ z → z ≤ 2 ^ 331 → z.natAbs < 2 ^ 400 := fun z z1 z2 => Nat.lt_of_le_of_lt (show z.natAbs ≤ 2 ^ 331 by omega) (by decide +kernel)
    refine ⟨_, (pss_cons (ps_asg (pv 0) (pg_tup rfl (pgs_cons (pg_name (i := 3) nd rfl (.inl rfl)) (pgs_cons (pg_name (i := 4) nd rfl (.inl rfl)) pgs_nil))))
    (pss_cons (ps_asg (pv 1) (pg_tup rfl (pgs_cons (pg_name (i := 5) nd rfl (.inl rfl)) (pgs_cons (pg_name (i := 6) nd rfl (.inl rfl)) pgs_nil))))
    (pss_cons (ps_asg (pe_c C_common_divisor hr (by decide) (by rfl) (pa_cons (pv 4) (pa_cons (pv 6) pa_nil))) (pg_tup rfl (pgs_cons (pg_name (i := 7) nd rfl (.inl rfl)) (pgs_cons (pg_name (i := 8) nd rfl (.inl rfl)) pgs_nil))))
    (pss_cons (ps_if (pt_cmpR op_ne (pe_op op_mod (pv 2) (pv 7)) pe_int (nomark _))
      (pss_one (ps_ret pe_int))
      pss_nil)
    (pss_cons (ps_set (i := 9) nd rfl (.inl rfl) (pe_op op_fdivW (pv 6) (pv 7)))
    (pss_cons (ps_set (i := 10) nd rfl (.inl rfl) (pe_op op_mod (pe_op op_mulW (pe_op op_fdivW (pv 2) (pv 7)) (pv 8)) (pv 9)))
    (pss_cons (ps_set (i := 11) nd rfl (.inl rfl) (pe_callB (call_min2 rfl) (by rfl) B.min (by decide +kernel) (pa_cons (pe_op op_sub (pv 3) pe_int) (pa_cons (pe_op op_fdivW (pv 2) (pv 4)) pa_nil))))
    (pss_cons (ps_set (i := 12) nd rfl (.inl rfl) (pe_callB (call_max2 rfl) (by rfl) B.max (by decide +kernel) (pa_cons pe_int (pa_cons (pe_un un_neg (pe_op op_fdivW (pe_op op_sub (pe_op op_mulW (pv 6) (pe_op op_sub (pv 5) pe_int)) (pv 2)) (pv 4))) pa_nil))))
    (pss_one (ps_ret (pe_callB (call_max2 rfl) (by rfl) B.max (by decide +kernel) (pa_cons pe_int (pa_cons (pe_op op_sub (pe_op op_fdivW (pe_op op_sub (pv 11) (pv 10)) (pv 9)) (pe_op op_fdivW (pe_op op_sub (pe_op op_sub (pv 12) pe_int) (pv 10)) (pv 9))) pa_nil))))))))))))), ?_⟩
    refine ⟨_, rfl, p1, _, rfl, hx, rfl, _, _, rfl, _, _, rfl, rfl, ?_⟩
    refine ⟨_, rfl, p2, _, rfl, hy, rfl, _, _, rfl, _, _, rfl, rfl, ?_⟩
    refine ⟨_, rfl, _, rfl, a, b, rfl, by omega, by omega, lt a ha ha2, lt b hb hb2, fun t H2 g f s2 ht hg ga gb hf hfb => ?_⟩
    refine ⟨t, _, rfl, SqT.of ht, rfl, _, _, rfl, _, _, rfl, rfl, ?_⟩
    have gle : g ≤ b := Int.le_of_dvd (by omega) gb
    have gb4 : g.natAbs < 2 ^ 400 := lt g (by omega) (by omega)
    refine ⟨_, rfl, _, rfl, d, g, rfl, rfl, hg, rfl, _, rfl, ?_⟩
    by_cases gd : g ∣ d
    · refine iteNS (show V.int (d % g) = V.int 0 by rw [Int.emod_eq_zero_of_dvd gd]) ?_
      have hP : 0 < b / g := by
        obtain ⟨P, e⟩ := gb
        rw [e, Int.mul_ediv_cancel_left P (by omega)]
        exact Int.pos_of_mul_pos_right (by omega : 0 < g * P) (by omega)
      have hPb : (b / g).natAbs < 2 ^ 400 := Nat.lt_of_le_of_lt (ediv_bd hg) (lt b hb hb2)
      refine ⟨_, rfl, _, rfl, b, g, rfl, rfl, wide_div hg gb4 (by decide) (by decide), ?_⟩
      refine ⟨_, rfl, _, rfl, d, g, rfl, rfl, wide_div hg gb4 (by decide) (by decide), _, rfl, d / g, f, rfl, rfl, wide_mul (Nat.lt_of_le_of_lt (ediv_bd hg) hd) (Nat.lt_of_le_of_lt hfb (lt b hb hb2)) (by decide) (by decide) (by decide), _, rfl, _, _, rfl, rfl, hP, ?_⟩
      refine ⟨_, rfl, n, 1, rfl, rfl, _, rfl, _, rfl, d, a, rfl, rfl, wide_div (by omega) (lt a ha ha2) (by decide) (by decide), _, _, rfl, ?_⟩
      refine ⟨_, rfl, _, rfl, m, 1, rfl, rfl, b, _, rfl, rfl, wide_mul (a := 400) (b := 101) (lt b hb hb2) (Nat.lt_of_le_of_lt (show (m - 1).natAbs ≤ 2 ^ 100 by omega) (by decide +kernel)) (by decide) (by decide) (by decide), _, rfl, _, d, rfl, rfl, _, rfl, _, a, rfl, rfl, wide_div (by omega) (lt a ha ha2) (by decide) (by decide), _, rfl, _, _, rfl, ?_⟩
      refine ⟨_, rfl, _, rfl, _, _, rfl, rfl, _, rfl, _, _, rfl, rfl, wide_div hP hPb (by decide) (by decide), _, rfl, _, 1, rfl, rfl, _, rfl, _, _, rfl, rfl, _, rfl, _, _, rfl, rfl, wide_div hP hPb (by decide) (by decide), _, _, rfl, rfl, _, _, rfl, ?_⟩
      have := q H2 s2
      rw [← pairs_ok hn hm (by omega) (by omega) hg ga gb hf gd] at this
      exact this
    · refine iteNN (fun z => gd (Int.dvd_of_emod_eq_zero (by injection z))) ?_
      have h0 : wy [(n, a), (m, b)] d = 0 := wy_none (m := m.toNat) (by omega) ga gb gd n.toNat
      rw [← h0]
      exact q H2 s2
theorem sc_ways_at : FnScope ["rounds", "distance", "count", "stride", "one", "other", "k"] ["rounds", "distance"] (defScope s_ways_at) := ⟨rfl, rfl, rfl, by decide +kernel, rfl, by decide +kernel, by decide +kernel⟩
theorem ok_ways_at {f : Addr} {fd : FuncData} (F : Fun K "ways_at" "ways_at" s_ways_at f fd) (B : Blt mg) (C_pairs_at : Cal P w K mg base 2 "pairs_at" (sp_pairs_at K)) : FnOk P w K mg base CX0 3 f fd ["rounds", "distance"] (sp_ways_at K) := by
  refine F.ok sc_ways_at (fun vs H Q E h => ?_) (fun cdv A outer s H vs Q E hr h => ?_)
  · obtain ⟨v, rs, d, rfl, _⟩ := h
    rfl
  · obtain ⟨v, rs, d, rfl, ⟨a, xs, rfl, hs, hP⟩, hl, hrs, hd, q⟩ := h
    have nd := sc_ways_at.nd
    refine ⟨_, (pss_cons (ps_if (pt_not (pt_truth (pv 0) (by intro _; rfl)))
      (pss_one (ps_ret (pe_ifExp (pt_cmpR op_eq (pv 1) pe_int (nomark _)) pe_int pe_int)))
      pss_nil)
    (pss_cons (ps_if (pt_cmpR op_gt (pe_callB call_len_seq (by rfl) B.len (by decide +kernel) (pa_cons (pv 0) pa_nil)) pe_int (nomark _))
      pss_never
      pss_nil)
    (pss_cons (ps_asg (pe_slice sl_tupA (pe_op op_catA (pv 0) (pe_tup (pa_cons (pe_tup (pa_cons pe_int (pa_cons pe_int pa_nil))) pa_nil))) po_none (po_some pe_int)) (pg_tup rfl (pgs_cons (pg_name (i := 4) nd rfl (.inl rfl)) (pgs_cons (pg_name (i := 5) nd rfl (.inl rfl)) pgs_nil))))
    (pss_one (ps_ret (pe_c C_pairs_at hr (by decide) (by rfl) (pa_cons (pv 4) (pa_cons (pv 5) (pa_cons (pv 1) pa_nil))))))))), ?_⟩
    have hxl := hP.len
    refine ⟨_, rfl, _, .inr (.inl ⟨xs, hs, rfl⟩), ite2 (fun z => ?_) (fun z => ?_)⟩
    · have hx0 : xs = [] := by
        cases xs with
        | nil => rfl
        | cons _ _ => exact absurd z (by simp)
      subst hx0
      cases hP
      refine ⟨_, rfl, rfl, _, rfl, ?_⟩
      refine ite2 (fun z => ?_) (fun z => ?_)
      · have := q H (Same.refl _)
        rw [wy_nil, if_pos (by simpa using z)] at this
        exact this
      · have := q H (Same.refl _)
        rw [wy_nil, if_neg (by simpa using z)] at this
        exact this
    refine ⟨_, rfl, a, xs, rfl, .inr hs, _, 2, rfl, rfl, _, rfl, iteN (by omega) ?_⟩
    refine ⟨_, rfl, sl_of (show 2 ≤ 1000000 by decide), fun t1 n1 => ?_⟩
    have z1 := same_new n1 (o := HO.tup [V.int 1, V.int 1])
    refine ⟨sl_of (show 1 ≤ 1000000 by decide), fun t3 n3 => ?_⟩
    have z3 := same_new n3 (o := HO.tup [V.ref t1])
    have S := z1.trans z3
    have hs3 := same_t S hs
    have hP3 := Prs.tp (Same.tp S) hP
    have i1 : IsPr K (upd (upd H t1 (HO.tup [V.int 1, V.int 1])) t3 (HO.tup [V.ref t1])) (V.ref t1) (1, 1) := ⟨t1, rfl, same_t z3 (SqT.of upd_same)⟩
    have fin : ∀ (H5 : Hp) (x y : V) (r1 r2 : Int × Int), Same H H5 → IsPr K H5 x r1 → IsPr K H5 y r2 → RsOk [r1, r2] → wy [r1, r2] d = wy rs d → ∀ (R : VK), (∀ H', Same H5 H' → R (.int (wy rs d)) H' ) → sp_pairs_at K [x, y, .int d] H5 R (fun _ _ _ => False) := fun H5 x y r1 r2 s5 h1 h2 hok e R hR => by
      have a1 := hok r1 (by simp)
      have a2 := hok r2 (by simp)
      refine ⟨x, y, r1.1, r1.2, r2.1, r2.2, d, rfl, h1, h2, a1.1, a1.2.1, a2.1, a2.2.1, a1.2.2.1, a1.2.2.2, a2.2.2.1, a2.2.2.2, hd, fun H' s' => ?_⟩
      have := hR H' s'
      rw [← e] at this
      exact this
    have one : 1 ≤ (1 : Int) ∧ (1 : Int) ≤ 2 ^ 100 ∧ 1 ≤ (1 : Int) ∧ (1 : Int) ≤ 2 ^ 331 := by decide +kernel
    cases hP3 with
    | nil => exact absurd rfl z
    | @cons x r xs' rs' hx tl =>
      cases tl with
      | nil =>
        refine ⟨a, t3, [x], _, rfl, rfl, hs3, SqT.of upd_same, sl_of (show 1 + 1 ≤ 1000000 by decide), (fun z => by cases z), (fun _ z => by cases z), fun _ _ t4 n4 => ?_⟩
        have z4 := same_new n4 (o := HO.tup ([x] ++ [V.ref t1]))
        refine ⟨2, rfl, t4, _, rfl, SqT.of upd_same, (fun _ => ?_), fun z => absurd (show HT.sIx 2 0 none = 0 ∧ HT.sIx 2 2 (some 2) = 2 by decide +kernel) z⟩
        refine ⟨t4, [x, V.ref t1], rfl, SqT.of upd_same, rfl, _, _, rfl, _, _, rfl, rfl, ?_⟩
        refine ⟨_, rfl, _, rfl, _, rfl, fin _ _ _ r (1, 1) (S.trans z4) (hx.tp (Same.tp z4)) (i1.tp (Same.tp z4)) (fun r' hr => ?_) (wy_pad1 r d) _ fun H' s' => q H' ((S.trans z4).trans s')⟩
        rcases List.mem_cons.mp hr with e | hr
        · rw [e]; exact hrs r (by simp)
        · have : r' = (1, 1) := by simpa using hr
          rw [this]
          exact one
      | @cons x2 r2 xs'' rs'' hx2 tl2 =>
        cases tl2 with
        | nil =>
          refine ⟨a, t3, [x, x2], _, rfl, rfl, hs3, SqT.of upd_same, sl_of (show 2 + 1 ≤ 1000000 by decide), (fun z => by cases z), (fun _ z => by cases z), fun _ _ t4 n4 => ?_⟩
          have z4 := same_new n4 (o := HO.tup ([x, x2] ++ [V.ref t1]))
          refine ⟨2, rfl, t4, _, rfl, SqT.of upd_same, (fun z => absurd (show HT.sIx 3 0 none = 0 ∧ HT.sIx 3 3 (some 2) = 3 from z) (by decide +kernel)), fun _ t5 n5 => ?_⟩
          have z5 := same_new n5 (o := HO.tup (cutV ([x, x2] ++ [V.ref t1]) none (some 2)))
          refine ⟨t5, [x, x2], rfl, SqT.of (show upd _ t5 (HO.tup (cutV ([x, x2] ++ [V.ref t1]) none (some 2))) t5 = some (HO.tup [x, x2]) from upd_same), rfl, _, _, rfl, _, _, rfl, rfl, ?_⟩
          have S5 := z4.trans z5
          exact ⟨_, rfl, _, rfl, _, rfl, fin _ _ _ r r2 (S.trans S5) (hx.tp (Same.tp S5)) (hx2.tp (Same.tp S5)) hrs rfl _ fun H' s' => q H' ((S.trans S5).trans s')⟩
        | cons _ _ => exact absurd hl (by simp)
theorem sc_value_of : FnScope ["prime", "terms", "place", "start", "coefficient", "rounds"] ["prime", "terms", "place"] (defScope s_value_of) := ⟨rfl, rfl, rfl, by decide +kernel, rfl, by decide +kernel, by decide +kernel⟩
theorem ok_value_of {f : Addr} {fd : FuncData} (F : Fun K "value_of" "value_of" s_value_of f fd) (B : Blt mg) (C_ways_at : Cal P w K mg base 3 "ways_at" (sp_ways_at K)) : FnOk P w K mg base CX0 4 f fd ["prime", "terms", "place"] (sp_value_of K) := by
  refine F.ok sc_value_of (fun vs H Q E h => ?_) (fun cdv A outer s H vs Q E hr h => ?_)
  · obtain ⟨p, D, ys, ts, x, pl, T, rfl, _⟩ := h
    rfl
  · obtain ⟨p, D, ys, ts, x, pl, T, rfl, hp, hD, hT, hl, hok, hTb, hx, q⟩ := h
    have nd := sc_value_of.nd
    refine ⟨_, (pss_one (ps_ret (pe_op op_mod (pe_callB (cr_sum rfl) (by rfl) B.sum (by decide +kernel) (pa_cons (pe_lc (own := [("start", 3), ("coefficient", 4), ("rounds", 5)]) (g := gTup K 3 (gCons (gName 3) (gCons (gName 4) (gCons (gName 5) gNil)))) (by rfl) nd (pi_list (pv 1)) (blkOk_by (N := ["prime", "terms", "place", "start", "coefficient", "rounds"]) (sc := defScope s_value_of) (own := [("start", 3), ("coefficient", 4), ("rounds", 5)]) (by decide +kernel)) (fun _ _ _ _ _ => (pg_tup rfl (pgs_cons (pg_name (i := 3) nd rfl (.inl rfl) (.inr rfl)) (pgs_cons (pg_name (i := 4) nd rfl (.inl rfl) (.inr rfl)) (pgs_cons (pg_name (i := 5) nd rfl (.inl rfl) (.inr rfl)) pgs_nil))))) (fun _ _ _ _ _ => pts_nil) (fun _ _ _ _ _ => (pe_op op_mulW (pv 4) (pe_c C_ways_at hr (by decide) (by rfl) (pa_cons (pv 5) (pa_cons (pe_op op_sub (pv 2) (pv 3)) pa_nil)))))) pa_nil)) (pv 0)))), ?_⟩
    dsimp only [tNext, tSeq, tRet, tOp, tCB, tCons, tNil]
    refine lcTm (K := K) (fun t => t.co * wy t.rs (x - t.pl)) (fun R r => ⟨_, rfl, r⟩) hD hT hl (fun _ _ _ => rfl) (fun t ht y H2 s2 hy R r => ?_) fun L H2 nL s2 hL => ?_
    · have ok := hok t ht
      have hd : (x - t.pl).natAbs < 2 ^ 400 := by
        have h1 := ok.at_
        have h2 : (2 : Nat) ^ 330 + 2 ^ 340 < 2 ^ 400 := by decide +kernel
        omega
      refine ⟨_, rfl, _, rfl, _, rfl, _, rfl, x, t.pl, rfl, rfl, y, t.rs, x - t.pl, rfl, hy, by have := ok.len; omega, ok.rs, hd, fun H3 s3 => ?_⟩
      refine ⟨t.co, _, rfl, rfl, wide_mul (a := 301) (b := 201) (Nat.lt_of_le_of_lt ok.co (by decide +kernel)) (wy_lt ok.rs (by have := ok.len; omega) _) (by decide) (by decide) (by decide), r H3 s3⟩
    · have q2 : Q (V.int ((ts.map fun t : Tm => t.co * wy t.rs (x - t.pl)).sum % p)) H2 := q H2 s2
      exact ⟨L, ts.map (fun t : Tm => t.co * wy t.rs (x - t.pl)), rfl, SqL.of hL, _, rfl, _, p, rfl, rfl, hp, q2⟩
theorem sc_value_at : FnScope ["prime", "program", "place"] ["prime", "program", "place"] (defScope s_value_at) := ⟨rfl, rfl, rfl, by decide +kernel, rfl, by decide +kernel, by decide +kernel⟩
theorem ok_value_at {f : Addr} {fd : FuncData} (F : Fun K "value_at" "value_at" s_value_at f fd) (B : Blt mg) (C_terms_of : Cal P w K mg base (3 + 3) "terms_of" (sp_terms_of K 3)) (C_value_of : Cal P w K mg base 4 "value_of" (sp_value_of K)) : FnOk P w K mg base CX0 7 f fd ["prime", "program", "place"] (sp_value_at K) := by
  refine F.ok sc_value_at (fun vs H Q E h => ?_) (fun cdv A outer s H vs Q E hr h => ?_)
  · obtain ⟨p, v, x, b, rfl, _⟩ := h
    rfl
  · obtain ⟨p, v, x, b, rfl, hp, hv, hd, hw, hn, hc, hx, q⟩ := h
    have nd := sc_value_at.nd
    refine ⟨_, (pss_one (ps_ret (pe_c C_value_of hr (by decide) (by rfl) (pa_cons (pv 0) (pa_cons (pe_c C_terms_of hr (by decide) (by rfl) (pa_cons (pv 1) (pa_cons pe_int pa_nil))) (pa_cons (pv 2) pa_nil)))))), ?_⟩
    refine ⟨_, rfl, _, rfl, v, 0, b, rfl, hv, hd, by decide, hw, hn, hc, fun D ys ts H2 s2 nD hD hT hval hok hlen => ?_⟩
    have ht := tr_big 2 b (by omega) hw (Nat.le_trans (len_cnP b) hc)
    refine ⟨_, rfl, p, D, ys, ts, x, 0, trP b, rfl, hp, SqL.of hD, hT, by omega, hok, ht, by rw [Int.sub_zero]; exact hx, fun H3 s3 => ?_⟩
    rw [hval, Int.sub_zero]
    exact q H3 (s2.trans s3)
theorem sc__law_pen : FnScope ["_law_script"] ["_law_script"] (defScope s__law_pen) := ⟨rfl, rfl, rfl, by decide +kernel, rfl, by decide +kernel, by decide +kernel⟩
theorem ok__law_pen {f : Addr} {fd : FuncData} (F : Fun K "_law_pen" "_law_pen" s__law_pen f fd) (B : Blt mg) : FnOk P w K mg base CX0 1 f fd ["_law_script"] (sp__law_pen K) := by
  refine F.ok sc__law_pen (fun vs H Q E h => ?_) (fun cdv A outer s H vs Q E hr h => ?_)
  · obtain ⟨a, ns, rfl, _⟩ := h
    rfl
  · obtain ⟨a, ns, rfl, hS, k⟩ := h
    have nd := sc__law_pen.nd
    refine ⟨_, (pss_one (ps_ret (pe_disp (pps_cons pe_str (pe_callTy call_list_of (by rfl) B.list (by decide +kernel) (pa_cons (pe_slice sl_list (pv 0) po_none (po_some pe_int)) pa_nil)) (pps_cons pe_str pe_int (pps_cons pe_str pe_int pps_nil))) (by rfl) (by rfl) (fun z => by cases z) (by decide)))), ?_⟩
    intro p np
    have s1 : Same H (upd H p (.dK [])) := same_new np
    refine ⟨_, rfl, 63, rfl, a, _, rfl, s1.seq hS, fun q nq => ?_⟩
    have nqp : p ≠ q := ne_of_none upd_same nq
    refine ⟨q, _, rfl, .inl (SqL.of upd_same), fun c nc => ?_⟩
    have npc : p ≠ c := ne_of_none (show upd (upd H p (.dK [])) q _ p = some (.dK []) by rw [upd_ne nqp, upd_same]) nc
    have s2 : Same H (upd (upd H p (.dK [])) q (.lst (cutV (ns.map V.int) none (some 63)))) := s1.trans (same_new nq)
    refine ⟨?_, penKv c 0 0, rfl, by show 3 ≤ 15; decide, ?_⟩
    · rw [upd_ne npc, upd_ne nqp, upd_same]
    · rw [pen_merge]
      obtain ⟨ms, hms⟩ : ∃ ms : List Int, cutV (ns.map V.int) none (some 63) = ms.map V.int := by
        unfold cutV
        rw [← List.map_drop, ← List.map_take]
        exact ⟨_, rfl⟩
      refine k p c _ np (same_mut (s2.trans (same_new nc)) np) ⟨ms, 0, 0, upd_same, ?_, by omega, by omega⟩
      rw [upd_ne npc.symm, upd_same, hms]
theorem sc__law_draw : FnScope ["_law_pen_here", "_law_many", "_law_digit", "_law_used", "_law_cell", "_law_blend"] ["_law_pen_here", "_law_many"] (defScope s__law_draw) := ⟨rfl, rfl, rfl, by decide +kernel, rfl, by decide +kernel, by decide +kernel⟩
theorem ints_shaped (ns : List Int) : SeqAt.shaped (.list (ns.map PyData.int)) = true := by
  have : PyData.canLayAll0 (ns.map PyData.int) = true ∧ PyData.depthAll (ns.map PyData.int) = 0 := by
    induction ns with
    | nil => exact ⟨rfl, rfl⟩
    | cons n r ih =>
      refine ⟨?_, ?_⟩
      · show (true && PyData.canLayAll0 (r.map PyData.int)) = true
        rw [ih.1]
        rfl
      · show max 0 (PyData.depthAll (r.map PyData.int)) = 0
        rw [ih.2]
        rfl
  show (PyData.canLayAll0 (ns.map PyData.int) && decide (PyData.depthAll (ns.map PyData.int) + 1 ≤ 64)) = true
  rw [this.1, this.2]
  rfl
theorem ints_dpAll {H : Hp} : ∀ ns : List Int, DpAll K H (ns.map V.int) (ns.map PyData.int)
  | [] => .nil
  | n :: r => .cons (.int n) (ints_dpAll r)
theorem dg_left {H : Hp} {p c : Addr} {u l : Int} (h : H p = some (.dK (penKv c u l))) : DGet H p (.str "left") (some (.int l)) := by
  have := DGet.k (k := (Sum.inr ("left" : Str) : Key)) h
  rw [pen_left] at this
  exact this
theorem dg_used {H : Hp} {p c : Addr} {u l : Int} (h : H p = some (.dK (penKv c u l))) : DGet H p (.str "used") (some (.int u)) := by
  have := DGet.k (k := (Sum.inr ("used" : Str) : Key)) h
  rw [pen_used] at this
  exact this
theorem dg_cells {H : Hp} {p c : Addr} {u l : Int} (h : H p = some (.dK (penKv c u l))) : DGet H p (.str "cells") (some (.ref c)) := by
  have := DGet.k (k := (Sum.inr ("cells" : Str) : Key)) h
  rw [pen_cells] at this
  exact this
theorem dp_left {H : Hp} {p c : Addr} {u l : Int} (x : Int) (h : H p = some (.dK (penKv c u l))) : DPut H p (.str "left") (.int x) (upd H p (.dK (penKv c u x))) := by
  have := DPut.k (k := (Sum.inr ("left" : Str) : Key)) (v := .int x) h (sl_lt (show 3 ≤ 1000000 by decide))
  rw [pen_setL] at this
  exact this
theorem dp_used {H : Hp} {p c : Addr} {u l : Int} (x : Int) (h : H p = some (.dK (penKv c u l))) : DPut H p (.str "used") (.int x) (upd H p (.dK (penKv c x l))) := by
  have := DPut.k (k := (Sum.inr ("used" : Str) : Key)) (v := .int x) h (sl_lt (show 3 ≤ 1000000 by decide))
  rw [pen_setU] at this
  exact this
theorem atI_mod {ns : List Int} (u : Int) (h : 0 < ns.length) : ∃ z, atI (ns.map V.int) (u % ((ns.map V.int).length : Int)) = some (.int z) := by
  rw [List.length_map]
  have h1 := Int.emod_nonneg u (show (ns.length : Int) ≠ 0 by omega)
  have h2 := Int.emod_lt_of_pos u (show (0 : Int) < (ns.length : Int) by omega)
  obtain ⟨j, hj⟩ : ∃ j : Nat, u % (ns.length : Int) = (j : Int) := ⟨(u % (ns.length : Int)).toNat, by omega⟩
  rw [hj]
  have hlt : j < ns.length := by omega
  refine ⟨ns[j], atI_nat ?_⟩
  rw [List.getElem?_map, List.getElem?_eq_getElem hlt]
  rfl
theorem cm_197 (x j : Int) : CMul (x % 4294967197) j := .inl ⟨by have := Int.emod_nonneg x (show (4294967197 : Int) ≠ 0 by decide); omega, by have := Int.emod_lt_of_pos x (show (0 : Int) < 4294967197 by decide); omega⟩
theorem cm_189 (x j : Int) : CMul (x % 4294967189) j := .inl ⟨by have := Int.emod_nonneg x (show (4294967189 : Int) ≠ 0 by decide); omega, by have := Int.emod_lt_of_pos x (show (0 : Int) < 4294967189 by decide); omega⟩
theorem ok__law_draw {f : Addr} {fd : FuncData} (F : Fun K "_law_draw" "_law_draw" s__law_draw f fd) (B : Blt mg) : FnOk P w K mg base CX0 1 f fd ["_law_pen_here", "_law_many"] sp__law_draw := by
  refine F.ok sc__law_draw (fun vs H Q E h => ?_) (fun cdv A outer s H vs Q E hr h => ?_)
  · obtain ⟨p, c, many, n, rfl, _⟩ := h
    rfl
  · obtain ⟨p, c, many, n, rfl, hm, hm2, ⟨ns, u, l, h1, h2, hu0, hun⟩, hn, k⟩ := h
    have hu := hu_of hr
    have hu2 := hr.units
    have nd := sc__law_draw.nd
    have npc : p ≠ c := ne_of h1 h2 (by intro z; cases z)
    refine ⟨_, (pss_cons (ps_if (pt_cmpR op_gt (pe_dget hu (pv 0) pe_str (fun _ _ => rfl)) pe_int (nomark _))
      (pss_cons (ps_set (i := 2) nd rfl (.inl rfl) (pe_op op_mod (pe_dget hu (pv 0) pe_str (fun _ _ => rfl)) (pv 1)))
    (pss_cons (ps_dput hu (pv 0) pe_str (pe_op op_fdivW (pe_dget hu (pv 0) pe_str (fun _ _ => rfl)) (pv 1)) rfl)
    (pss_one (ps_ret (pv 2)))))
      pss_nil)
    (pss_cons (ps_set (i := 3) nd rfl (.inl rfl) (pe_dget hu (pv 0) pe_str (fun _ _ => rfl)))
    (pss_cons (ps_dput hu (pv 0) pe_str (pe_op op_add (pv 3) pe_int) rfl)
    (pss_cons (ps_set (i := 4) nd rfl (.inl rfl) (pe_op op_add (pe_op op_mul pe_int (pv 3)) pe_int))
    (pss_cons (ps_if (pt_cmpR (op_neD hu2) (pe_dget hu (pv 0) pe_str (fun _ _ => rfl)) (pe_lst pa_nil) (nomark _))
      (pss_one (ps_set (i := 4) nd rfl (.inl rfl) (pe_ix ix_list (pe_dget hu (pv 0) pe_str (fun _ _ => rfl)) (pe_op op_mod (pv 3) (pe_callB call_len_seq (by rfl) B.len (by decide +kernel) (pa_cons (pe_dget hu (pv 0) pe_str (fun _ _ => rfl)) pa_nil))) (fun _ _ => rfl))))
      pss_nil)
    (pss_cons (ps_if (PW.pt (pw_and (pt_cmpR op_lt (pv 3) (pe_callB call_len_seq (by rfl) B.len (by decide +kernel) (pa_cons (pe_dget hu (pv 0) pe_str (fun _ _ => rfl)) pa_nil)) (nomark _)) (pw_and1 (pt_cmpR op_ge (pe_callB call_abs (by rfl) B.abs (by decide +kernel) (pa_cons (pv 4) pa_nil)) (pe_op op_pow pe_int pe_int) (nomark _)))))
      (pss_cons (ps_dput hu (pv 0) pe_str (pe_op op_fdivW (pe_op op_sub (pe_callB call_abs (by rfl) B.abs (by decide +kernel) (pa_cons (pv 4) pa_nil)) (pe_op op_pow pe_int pe_int)) (pv 1)) rfl)
    (pss_one (ps_ret (pe_op op_mod (pe_op op_sub (pe_callB call_abs (by rfl) B.abs (by decide +kernel) (pa_cons (pv 4) pa_nil)) (pe_op op_pow pe_int pe_int)) (pv 1)))))
      pss_nil)
    (pss_cons (ps_set (i := 5) nd rfl (.inl rfl) (pe_op op_add (pe_op op_mul (pe_op op_mod (pv 4) pe_int) pe_int) (pe_op op_mul (pe_op op_mul pe_int (pv 3)) (pv 3))))
    (pss_cons (ps_set (i := 5) nd rfl (.inl rfl) (pe_op op_mod (pe_op op_add (pe_op op_add (pv 5) (pe_op op_mul pe_int (pv 3))) pe_int) pe_int))
    (pss_cons (ps_set (i := 5) nd rfl (.inl rfl) (pe_op op_mod (pe_op op_add (pe_op op_add (pe_op op_add (pe_op op_mul (pv 5) (pv 5)) (pe_op op_mul pe_int (pv 5))) (pe_op op_mul pe_int (pv 3))) pe_int) pe_int))
    (pss_one (ps_ret (pe_op op_mod (pe_op op_fdiv (pe_op op_mod (pe_op op_mul (pv 5) (pe_op op_add (pv 5) pe_int)) pe_int) pe_int) (pv 1))))))))))))), ?_⟩
    have wd : ∀ i : Int, CDivW i many := fun i => wide_div hm hm2 (by decide) (by decide)
    have rng : ∀ i : Int, 0 ≤ i % many ∧ i % many < many := fun i => ⟨Int.emod_nonneg i (by omega), Int.emod_lt_of_pos i hm⟩
    refine ⟨_, rfl, p, _, rfl, dg_left h1, _, _, rfl, rfl, _, rfl, ?_⟩
    refine ite2 (fun _ => ?_) (fun _ => ?_)
    · refine ⟨_, rfl, p, _, rfl, dg_left h1, _, rfl, l, many, rfl, rfl, hm, ?_⟩
      refine ⟨_, rfl, p, _, rfl, dg_left h1, _, rfl, l, many, rfl, rfl, wd _, _, rfl, p, _, rfl, dp_left _ h1, _, rfl, ?_⟩
      exact k _ _ (rng l).1 (rng l).2 (Kp.refl p H).upd ⟨ns, u, _, upd_same, by rw [upd_ne npc.symm]; exact h2, hu0, by omega⟩
    · have g1 : upd H p (.dK (penKv c (u + 1) l)) p = some (.dK (penKv c (u + 1) l)) := upd_same
      have g2 : upd H p (.dK (penKv c (u + 1) l)) c = some (.lst (ns.map V.int)) := by
        rw [upd_ne npc.symm]
        exact h2
      refine ⟨_, rfl, p, _, rfl, dg_used h1, _, rfl, u, 1, rfl, rfl, _, rfl, p, _, rfl, dp_used (u + 1) h1, ?_⟩
      refine ⟨_, rfl, 29, u, rfl, rfl, .inl ⟨by decide, by decide⟩, _, 11, rfl, rfl, ?_⟩
      refine ⟨_, rfl, p, _, rfl, dg_cells g1, Nat.zero_le _, fun q nq => ?_⟩
      have e1 : upd (upd H p (.dK (penKv c (u + 1) l))) q (.lst []) p = some (.dK (penKv c (u + 1) l)) := by
        rw [upd_ne (ne_of_none g1 nq)]
        exact g1
      have e2 : upd (upd H p (.dK (penKv c (u + 1) l))) q (.lst []) c = some (.lst (ns.map V.int)) := by
        rw [upd_ne (ne_of_none g2 nq)]
        exact g2
      have kq : Kp p H (upd (upd H p (.dK (penKv c (u + 1) l))) q (.lst [])) := (Kp.refl p H).upd.trans (Same.kp (same_new nq))
      have e3 : upd (upd H p (.dK (penKv c (u + 1) l))) q (.lst []) q = some (.lst []) := upd_same
      generalize upd (upd H p (.dK (penKv c (u + 1) l))) q (.lst []) = H1 at e1 e2 e3 kq ⊢
      have hpos : (!PyData.eqv (.list (ns.map PyData.int)) (.list [])) = true → 0 < ns.length := by
        cases ns with
        | nil => exact fun z => absurd z (by decide)
        | cons _ _ => exact fun _ => Nat.succ_pos _
      refine ⟨.list (ns.map PyData.int), .list [], .lst (SqL.of e2) (ints_dpAll ns), .lst (SqL.of e3) .nil, ints_shaped ns, ints_shaped [], _, rfl, ?_⟩
      refine ite2 (fun z => ?_) (fun _ => ?_)
      · obtain ⟨v, hv⟩ := atI_mod u (hpos z)
        refine ⟨_, rfl, p, _, rfl, dg_cells e1, _, rfl, _, rfl, p, _, rfl, dg_cells e1, c, _, rfl, .inl (SqL.of e2), u, _, rfl, rfl, (by rw [List.length_map]; have := hpos z; omega), c, _, _, _, rfl, rfl, SqL.of e2, hv, ?_⟩
        generalize v = cell
        refine ⟨_, rfl, _, rfl, p, _, rfl, dg_cells e1, c, _, rfl, .inl (SqL.of e2), u, _, rfl, rfl, _, rfl, ?_⟩
        refine ite2 (fun _ => ?_) (fun _ => ?_)
        · refine ⟨_, rfl, cell, rfl, 10, 18, rfl, rfl, ⟨by decide, by decide, by decide⟩, _, _, rfl, rfl, _, rfl, ?_⟩
          refine ite2 (fun _ => ?_) (fun _ => ?_)
          · refine ⟨_, rfl, cell, rfl, 10, 18, rfl, rfl, ⟨by decide, by decide, by decide⟩, _, _, rfl, rfl, _, rfl, _, many, rfl, rfl, wd _, _, rfl, p, _, rfl, dp_left _ e1, ?_⟩
            refine ⟨_, rfl, cell, rfl, 10, 18, rfl, rfl, ⟨by decide, by decide, by decide⟩, _, _, rfl, rfl, _, rfl, _, many, rfl, rfl, hm, ?_⟩
            exact k _ _ (rng _).1 (rng _).2 kq.upd ⟨ns, u + 1, _, upd_same, by rw [upd_ne npc.symm]; exact e2, by omega, by omega⟩
          · refine ⟨_, rfl, cell, 4294967231, rfl, rfl, (show (0 : Int) < 4294967231 by decide), _, 1664525, rfl, rfl, .inr ⟨by decide, by decide⟩, _, rfl, 24593, u, rfl, rfl, .inl ⟨by decide, by decide⟩, _, rfl, 24593 * u, u, rfl, rfl, .inr ⟨by omega, by omega⟩, _, _, rfl, rfl, ?_⟩
            refine ⟨_, rfl, _, rfl, 196613, u, rfl, rfl, .inl ⟨by decide, by decide⟩, _, _, rfl, rfl, _, 19, rfl, rfl, _, _, rfl, rfl, (show (0 : Int) < 4294967197 by decide), ?_⟩
            refine ⟨_, rfl, _, rfl, _, _, rfl, rfl, cm_197 _ _, _, rfl, 12582917, _, rfl, rfl, .inl ⟨by decide, by decide⟩, _, _, rfl, rfl, _, rfl, 7, u, rfl, rfl, .inl ⟨by decide, by decide⟩, _, _, rfl, rfl, _, 3, rfl, rfl, _, _, rfl, rfl, (show (0 : Int) < 4294967189 by decide), ?_⟩
            refine ⟨_, rfl, _, rfl, _, 25165843, rfl, rfl, _, _, rfl, rfl, cm_189 _ _, _, _, rfl, rfl, (show (0 : Int) < 4294967291 by decide), _, 64, rfl, rfl, ⟨by decide, by decide⟩, _, rfl, _, many, rfl, rfl, hm, ?_⟩
            exact k _ _ (rng _).1 (rng _).2 kq ⟨ns, u + 1, _, e1, e2, by omega, by omega⟩
        · refine iteF ?_
          refine ⟨_, rfl, cell, 4294967231, rfl, rfl, (show (0 : Int) < 4294967231 by decide), _, 1664525, rfl, rfl, .inr ⟨by decide, by decide⟩, _, rfl, 24593, u, rfl, rfl, .inl ⟨by decide, by decide⟩, _, rfl, 24593 * u, u, rfl, rfl, .inr ⟨by omega, by omega⟩, _, _, rfl, rfl, ?_⟩
          refine ⟨_, rfl, _, rfl, 196613, u, rfl, rfl, .inl ⟨by decide, by decide⟩, _, _, rfl, rfl, _, 19, rfl, rfl, _, _, rfl, rfl, (show (0 : Int) < 4294967197 by decide), ?_⟩
          refine ⟨_, rfl, _, rfl, _, _, rfl, rfl, cm_197 _ _, _, rfl, 12582917, _, rfl, rfl, .inl ⟨by decide, by decide⟩, _, _, rfl, rfl, _, rfl, 7, u, rfl, rfl, .inl ⟨by decide, by decide⟩, _, _, rfl, rfl, _, 3, rfl, rfl, _, _, rfl, rfl, (show (0 : Int) < 4294967189 by decide), ?_⟩
          refine ⟨_, rfl, _, rfl, _, 25165843, rfl, rfl, _, _, rfl, rfl, cm_189 _ _, _, _, rfl, rfl, (show (0 : Int) < 4294967291 by decide), _, 64, rfl, rfl, ⟨by decide, by decide⟩, _, rfl, _, many, rfl, rfl, hm, ?_⟩
          exact k _ _ (rng _).1 (rng _).2 kq ⟨ns, u + 1, _, e1, e2, by omega, by omega⟩
      · refine ⟨_, rfl, _, rfl, p, _, rfl, dg_cells e1, c, _, rfl, .inl (SqL.of e2), u, _, rfl, rfl, _, rfl, ?_⟩
        refine ite2 (fun _ => ?_) (fun _ => ?_)
        · refine ⟨_, rfl, 29 * u + 11, rfl, 10, 18, rfl, rfl, ⟨by decide, by decide, by decide⟩, _, _, rfl, rfl, _, rfl, ?_⟩
          refine ite2 (fun _ => ?_) (fun _ => ?_)
          · refine ⟨_, rfl, 29 * u + 11, rfl, 10, 18, rfl, rfl, ⟨by decide, by decide, by decide⟩, _, _, rfl, rfl, _, rfl, _, many, rfl, rfl, wd _, _, rfl, p, _, rfl, dp_left _ e1, ?_⟩
            refine ⟨_, rfl, 29 * u + 11, rfl, 10, 18, rfl, rfl, ⟨by decide, by decide, by decide⟩, _, _, rfl, rfl, _, rfl, _, many, rfl, rfl, hm, ?_⟩
            exact k _ _ (rng _).1 (rng _).2 kq.upd ⟨ns, u + 1, _, upd_same, by rw [upd_ne npc.symm]; exact e2, by omega, by omega⟩
          · refine ⟨_, rfl, 29 * u + 11, 4294967231, rfl, rfl, (show (0 : Int) < 4294967231 by decide), _, 1664525, rfl, rfl, .inr ⟨by decide, by decide⟩, _, rfl, 24593, u, rfl, rfl, .inl ⟨by decide, by decide⟩, _, rfl, 24593 * u, u, rfl, rfl, .inr ⟨by omega, by omega⟩, _, _, rfl, rfl, ?_⟩
            refine ⟨_, rfl, _, rfl, 196613, u, rfl, rfl, .inl ⟨by decide, by decide⟩, _, _, rfl, rfl, _, 19, rfl, rfl, _, _, rfl, rfl, (show (0 : Int) < 4294967197 by decide), ?_⟩
            refine ⟨_, rfl, _, rfl, _, _, rfl, rfl, cm_197 _ _, _, rfl, 12582917, _, rfl, rfl, .inl ⟨by decide, by decide⟩, _, _, rfl, rfl, _, rfl, 7, u, rfl, rfl, .inl ⟨by decide, by decide⟩, _, _, rfl, rfl, _, 3, rfl, rfl, _, _, rfl, rfl, (show (0 : Int) < 4294967189 by decide), ?_⟩
            refine ⟨_, rfl, _, rfl, _, 25165843, rfl, rfl, _, _, rfl, rfl, cm_189 _ _, _, _, rfl, rfl, (show (0 : Int) < 4294967291 by decide), _, 64, rfl, rfl, ⟨by decide, by decide⟩, _, rfl, _, many, rfl, rfl, hm, ?_⟩
            exact k _ _ (rng _).1 (rng _).2 kq ⟨ns, u + 1, _, e1, e2, by omega, by omega⟩
        · refine iteF ?_
          refine ⟨_, rfl, 29 * u + 11, 4294967231, rfl, rfl, (show (0 : Int) < 4294967231 by decide), _, 1664525, rfl, rfl, .inr ⟨by decide, by decide⟩, _, rfl, 24593, u, rfl, rfl, .inl ⟨by decide, by decide⟩, _, rfl, 24593 * u, u, rfl, rfl, .inr ⟨by omega, by omega⟩, _, _, rfl, rfl, ?_⟩
          refine ⟨_, rfl, _, rfl, 196613, u, rfl, rfl, .inl ⟨by decide, by decide⟩, _, _, rfl, rfl, _, 19, rfl, rfl, _, _, rfl, rfl, (show (0 : Int) < 4294967197 by decide), ?_⟩
          refine ⟨_, rfl, _, rfl, _, _, rfl, rfl, cm_197 _ _, _, rfl, 12582917, _, rfl, rfl, .inl ⟨by decide, by decide⟩, _, _, rfl, rfl, _, rfl, 7, u, rfl, rfl, .inl ⟨by decide, by decide⟩, _, _, rfl, rfl, _, 3, rfl, rfl, _, _, rfl, rfl, (show (0 : Int) < 4294967189 by decide), ?_⟩
          refine ⟨_, rfl, _, rfl, _, 25165843, rfl, rfl, _, _, rfl, rfl, cm_189 _ _, _, _, rfl, rfl, (show (0 : Int) < 4294967291 by decide), _, 64, rfl, rfl, ⟨by decide, by decide⟩, _, rfl, _, many, rfl, rfl, hm, ?_⟩
          exact k _ _ (rng _).1 (rng _).2 kq ⟨ns, u + 1, _, e1, e2, by omega, by omega⟩
theorem sc__law_pick : FnScope ["_law_pen_here", "_law_options"] ["_law_pen_here", "_law_options"] (defScope s__law_pick) := ⟨rfl, rfl, rfl, by decide +kernel, rfl, by decide +kernel, by decide +kernel⟩
theorem ok__law_pick {f : Addr} {fd : FuncData} (F : Fun K "_law_pick" "_law_pick" s__law_pick f fd) (B : Blt mg) (C__law_draw : Cal P w K mg base 1 "_law_draw" sp__law_draw) : FnOk P w K mg base CX0 2 f fd ["_law_pen_here", "_law_options"] sp__law_pick := by
  refine F.ok sc__law_pick (fun vs H Q E h => ?_) (fun cdv A outer s H vs Q E hr h => ?_)
  · obtain ⟨p, c, o, n, xs, rfl, _⟩ := h
    rfl
  · obtain ⟨p, c, o, n, xs, rfl, pen, hn, ho, hx, hx2, k⟩ := h
    have nd := sc__law_pick.nd
    refine ⟨_, (pss_one (ps_ret (pe_ix ix_list (pv 1) (pe_c C__law_draw hr (by decide) (by rfl) (pa_cons (pv 0) (pa_cons (pe_callB call_len_seq (by rfl) B.len (by decide +kernel) (pa_cons (pv 1) pa_nil)) pa_nil))) (fun _ _ => rfl)))), ?_⟩
    have nop : o ≠ p := pen.dict.elim fun _ e => ne_of ho e (by intro z; cases z)
    refine ⟨_, rfl, _, rfl, _, rfl, o, xs, rfl, .inl (SqL.of ho), p, c, (xs.length : Int), n, rfl, by omega, ?_, pen, hn, fun r H1 h0 h9 kp pen1 => ?_⟩
    · exact Nat.lt_of_le_of_lt (show ((xs.length : Int)).natAbs ≤ 100000 by omega) (by decide)
    · obtain ⟨j, rfl⟩ : ∃ j : Nat, r = (j : Int) := ⟨r.toNat, by omega⟩
      have hj : j < xs.length := by omega
      refine ⟨o, xs, (j : Int), xs[j], rfl, rfl, SqL.of (kp _ _ nop ho), atI_nat (List.getElem?_eq_getElem hj), ?_⟩
      exact k _ _ (List.getElem_mem hj) kp pen1
theorem sc__law_prime : FnScope ["_law_pen_here", "_law_found", "_law_larger"] ["_law_pen_here"] (defScope s__law_prime) := ⟨rfl, rfl, rfl, by decide +kernel, rfl, by decide +kernel, by decide +kernel⟩
theorem pick_p1 : ∀ q ∈ ([2, 2, 3, 3, 5, 7, 2, 3, 5, 11, 13, 97] : List Int), q ∈ primes := by decide
theorem pick_p2 : ∀ q ∈ ([13, 17, 19, 23, 29, 31, 37, 41, 43, 47, 53, 59, 61, 67, 71, 73, 79, 83, 89] : List Int), q ∈ primes := by decide
theorem ok__law_prime {f : Addr} {fd : FuncData} (F : Fun K "_law_prime" "_law_prime" s__law_prime f fd) (B : Blt mg) (C__law_pick : Cal P w K mg base 2 "_law_pick" sp__law_pick) : FnOk P w K mg base CX0 3 f fd ["_law_pen_here"] sp__law_prime := by
  refine F.ok sc__law_prime (fun vs H Q E h => ?_) (fun cdv A outer s H vs Q E hr h => ?_)
  · obtain ⟨p, c, n, rfl, _⟩ := h
    rfl
  · obtain ⟨p, c, n, rfl, pen, hn, k⟩ := h
    have nd := sc__law_prime.nd
    refine ⟨_, (pss_cons (ps_set (i := 1) nd rfl (.inl rfl) (pe_c C__law_pick hr (by decide) (by rfl) (pa_cons (pv 0) (pa_cons (pe_lst (pa_cons pe_int (pa_cons pe_int (pa_cons pe_int (pa_cons pe_int (pa_cons pe_int (pa_cons pe_int (pa_cons pe_int (pa_cons pe_int (pa_cons pe_int (pa_cons pe_int (pa_cons pe_int (pa_cons pe_int pa_nil))))))))))))) pa_nil))))
    (pss_cons (ps_set (i := 2) nd rfl (.inl rfl) (pe_lst (pa_cons pe_int (pa_cons pe_int (pa_cons pe_int (pa_cons pe_int (pa_cons pe_int (pa_cons pe_int (pa_cons pe_int (pa_cons pe_int (pa_cons pe_int (pa_cons pe_int (pa_cons pe_int (pa_cons pe_int (pa_cons pe_int (pa_cons pe_int (pa_cons pe_int (pa_cons pe_int (pa_cons pe_int (pa_cons pe_int (pa_cons pe_int pa_nil)))))))))))))))))))))
    (pss_one (ps_ret (pe_ifExp (pt_cmpR op_eq (pv 1) pe_int (nomark _)) (pe_c C__law_pick hr (by decide) (by rfl) (pa_cons (pv 0) (pa_cons (pv 2) pa_nil))) (pv 1)))))), ?_⟩
    refine ⟨_, rfl, sl_of (show 12 ≤ 1000000 by decide), fun o no => ?_⟩
    refine ⟨p, c, o, n, ([2, 2, 3, 3, 5, 7, 2, 3, 5, 11, 13, 97] : List Int).map V.int, rfl, pen.same (same_new no), by omega, upd_same, by decide, by decide, fun v H1 hv kp pen1 => ?_⟩
    obtain ⟨q, hq, rfl⟩ := List.mem_map.mp hv
    refine ⟨sl_of (show 19 ≤ 1000000 by decide), fun o2 no2 => ?_⟩
    have kp2 : Kp p H (upd H1 o2 (.lst (([13, 17, 19, 23, 29, 31, 37, 41, 43, 47, 53, 59, 61, 67, 71, 73, 79, 83, 89] : List Int).map V.int))) := (Same.kp (same_new no)).trans (kp.trans (Same.kp (same_new no2)))
    refine ⟨_, rfl, rfl, _, rfl, ?_⟩
    refine ite2 (fun _ => ?_) (fun _ => ?_)
    · refine ⟨_, rfl, _, rfl, p, c, o2, n + 1, ([13, 17, 19, 23, 29, 31, 37, 41, 43, 47, 53, 59, 61, 67, 71, 73, 79, 83, 89] : List Int).map V.int, rfl, pen1.same (same_new no2), by omega, upd_same, by decide, by decide, fun v H2 hv2 kp3 pen2 => ?_⟩
      obtain ⟨q2, hq2, rfl⟩ := List.mem_map.mp hv2
      exact k _ _ (pick_p2 _ hq2) (kp2.trans kp3) pen2
    · exact ⟨_, rfl, k _ _ (pick_p1 _ hq) kp2 ((pen1.same (same_new no2)).mono (by omega))⟩
theorem sc__law_integer : FnScope ["_law_pen_here", "_law_most"] ["_law_pen_here", "_law_most"] (defScope s__law_integer) := ⟨rfl, rfl, rfl, by decide +kernel, rfl, by decide +kernel, by decide +kernel⟩
theorem ten90 {m : Int} (h0 : 0 ≤ m) (h : m.natAbs < 10 ^ 90) : (2 * m + 1).natAbs < 2 ^ 400 := by
  have e : (2 * m + 1).natAbs = 2 * m.natAbs + 1 := by omega
  have h2 : 2 * 10 ^ 90 + 1 < 2 ^ 400 := by decide +kernel
  rw [e]
  omega
theorem ok__law_integer {f : Addr} {fd : FuncData} (F : Fun K "_law_integer" "_law_integer" s__law_integer f fd) (B : Blt mg) (C__law_draw : Cal P w K mg base 1 "_law_draw" sp__law_draw) : FnOk P w K mg base CX0 2 f fd ["_law_pen_here", "_law_most"] sp__law_integer := by
  refine F.ok sc__law_integer (fun vs H Q E h => ?_) (fun cdv A outer s H vs Q E hr h => ?_)
  · obtain ⟨p, c, m, n, rfl, _⟩ := h
    rfl
  · obtain ⟨p, c, m, n, rfl, hm, hm2, pen, hn, k⟩ := h
    have nd := sc__law_integer.nd
    refine ⟨_, (pss_one (ps_ret (pe_op op_sub (pe_c C__law_draw hr (by decide) (by rfl) (pa_cons (pv 0) (pa_cons (pe_op op_add (pe_op op_mul pe_int (pv 1)) pe_int) pa_nil))) (pv 1)))), ?_⟩
    refine ⟨_, rfl, _, rfl, 2, m, rfl, rfl, .inl ⟨by decide, by decide⟩, _, 1, rfl, rfl, p, c, 2 * m + 1, n, rfl, by omega, ten90 hm hm2, pen, hn, fun r H1 h0 h9 kp pen1 => ?_⟩
    exact ⟨_, rfl, r, m, rfl, rfl, k _ _ (by omega) kp pen1⟩
theorem sc__law_body : FnScope ["_law_pen_here", "_law_most", "_law_reach", "_law_found", "_law_k", "_law_word", "_law_most_count"] ["_law_pen_here", "_law_most", "_law_reach"] (defScope s__law_body) := ⟨rfl, rfl, rfl, by decide +kernel, rfl, by decide +kernel, by decide +kernel⟩
theorem ok__law_body {f : Addr} {fd : FuncData} (F : Fun K "_law_body" "_law_body" s__law_body f fd) (B : Blt mg) (C__law_draw : Cal P w K mg base 1 "_law_draw" sp__law_draw) (C__law_pick : Cal P w K mg base 2 "_law_pick" sp__law_pick) (C__law_integer : Cal P w K mg base 2 "_law_integer" sp__law_integer) : FnOk P w K mg base CX0 3 f fd ["_law_pen_here", "_law_most", "_law_reach"] (sp__law_body K) := by
  refine F.ok sc__law_body (fun vs H Q E h => ?_) (fun cdv A outer s H vs Q E hr h => ?_)
  · obtain ⟨p, c, most, reach, n, rfl, _⟩ := h
    rfl
  · obtain ⟨p, cs, most, reach, n, rfl, hm, hm2, hre, hre2, pen, hn, k⟩ := h
    have nd := sc__law_body.nd
    refine ⟨_, (pss_cons (ps_set (i := 3) nd rfl (.inl rfl) (pe_lst pa_nil))
    (pss_cons (ps_for PassesOwn.never rfl (pi_range1 (by rfl) B.range (pa_cons (pe_c C__law_draw hr (by decide) (by rfl) (pa_cons (pv 0) (pa_cons (pe_op op_add (pv 1) pe_int) pa_nil))) pa_nil)) (pg_name (i := 4) nd rfl (.inl rfl))
      (pss_cons (ps_par (i := 5) (j := 6) (by rfl) nd rfl rfl (by decide) rfl rfl (pa_cons (pe_c C__law_pick hr (by decide) (by rfl) (pa_cons (pv 0) (pa_cons (pe_lst (pa_cons pe_str (pa_cons pe_str pa_nil))) pa_nil))) (pa_cons (pe_c C__law_pick hr (by decide) (by rfl) (pa_cons (pv 0) (pa_cons (pe_lst (pa_cons pe_int (pa_cons pe_int (pa_cons (pv 2) pa_nil)))) pa_nil))) pa_nil)) (by rfl))
    (pss_one (ps_expr (pe_bm PySem.F.plainAttrs_list PySem.F.slot_list_append PySem.F.type_list_append mt_append (pv 3) (pa_cons (pe_tup (pa_cons (pv 5) (pa_cons (pe_c C__law_integer hr (by decide) (by rfl) (pa_cons (pv 0) (pa_cons (pv 6) pa_nil))) pa_nil))) pa_nil))))))
    (pss_one (ps_ret (pv 3))))), ?_⟩
    refine ⟨Nat.zero_le _, fun D nD => ?_⟩
    have s1 : Same H (upd H D (.lst [])) := same_new nD
    have npD : D ≠ p := pen.np nD
    have ncD : D ≠ cs := pen.nc nD
    refine ⟨_, rfl, _, rfl, most, 1, rfl, rfl, p, cs, most + 1, n, rfl, by omega, Nat.lt_of_le_of_lt (show (most + 1).natAbs ≤ 1001 by omega) (by decide), pen.same s1, by omega, fun r H1 h0 h9 kp pen1 => ?_⟩
    have hD1 : H1 D = some (.lst []) := kp _ _ npD upd_same
    refine ⟨r, rfl, by omega, by omega, for_range (lo := 0) (n := r.toNat) (fun i σ H2 => ∃ (xs : List V) (b : List Ins) (y z u : Option V), σ = [some (.ref p), some (.int most), some (.int reach), some (.ref D), y, z, u] ∧ Kp p H H2 ∧ PenAt H2 p cs (n + 1 + 3 * i) ∧ H2 D = some (.lst xs) ∧ FIs K H2 xs b ∧ Flat b i (reach.natAbs + 3)) ?_ ?_ ?_⟩
    · exact ⟨[], [], none, none, none, rfl, (Same.kp s1).trans kp, pen1, hD1, .nil, Nat.le_refl _, fun i h => absurd h List.not_mem_nil, fun i h => absurd h List.not_mem_nil⟩
    · rintro i σ H2 hi ⟨xs, b, y, z, u, rfl, k2, pen2, hD2, hF, hfl⟩
      have hxl : xs.length ≤ i := by rw [hF.len]; exact hfl.len
      refine ⟨_, rfl, sl_of (show 2 ≤ 1000000 by decide), fun o1 no1 => ?_⟩
      have z1 := same_new no1 (o := HO.lst [V.str "step", V.str "turn"])
      refine ⟨p, cs, o1, _, _, rfl, pen2.same z1, by omega, upd_same, (show 0 < 2 by decide), (show 2 ≤ 100000 by decide), fun wd H3 hwd k3 pen3 => ?_⟩
      refine ⟨_, rfl, _, rfl, sl_of (show 3 ≤ 1000000 by decide), fun o2 no2 => ?_⟩
      have z2 := same_new no2 (o := HO.lst [V.int 1, V.int 3, V.int reach])
      refine ⟨p, cs, o2, _, _, rfl, pen3.same z2, by omega, upd_same, (show 0 < 3 by decide), (show 3 ≤ 100000 by decide), fun mv H4 hmv k4 pen4 => ?_⟩
      obtain ⟨mc, rfl, hmc0, hmc⟩ : ∃ mc : Int, mv = .int mc ∧ 0 ≤ mc ∧ mc.natAbs ≤ reach.natAbs + 3 := by
        rcases List.mem_cons.mp hmv with e | hmv
        · exact ⟨1, e, by decide, by show 1 ≤ _; omega⟩
        rcases List.mem_cons.mp hmv with e | hmv
        · exact ⟨3, e, by decide, by show 3 ≤ _; omega⟩
        rcases List.mem_cons.mp hmv with e | hmv
        · exact ⟨reach, e, hre, by omega⟩
        exact absurd hmv List.not_mem_nil
      refine ⟨_, _, rfl, ?_⟩
      have k24 : Kp p H2 H4 := (Same.kp z1).trans (k3.trans ((Same.kp z2).trans k4))
      have hD4 : H4 D = some (.lst xs) := k24 _ _ npD hD2
      have hmc9 : mc.natAbs < 10 ^ 90 := by
        rcases List.mem_cons.mp hmv with e | hmv
        · cases e; decide
        rcases List.mem_cons.mp hmv with e | hmv
        · cases e; decide
        rcases List.mem_cons.mp hmv with e | hmv
        · cases e; exact hre2
        exact absurd hmv List.not_mem_nil
      refine ⟨_, rfl, .inl ⟨rfl, _, SqL.of hD4⟩, _, rfl, _, rfl, _, rfl, p, cs, mc, _, rfl, hmc0, hmc9, pen4, by omega, fun ct H5 hct k5 pen5 => ?_⟩
      refine ⟨sl_of (show 2 ≤ 1000000 by decide), fun t nt => ?_⟩
      have hD5 : H5 D = some (.lst xs) := k5 _ _ npD hD4
      have z3 := same_new nt (o := HO.tup [wd, V.int ct])
      have hD6 := z3 _ _ hD5
      refine ⟨D, xs, _, rfl, rfl, hD6, sl_lt (by omega), ?_⟩
      have t2 : Tp (upd H5 t (HO.tup [wd, V.int ct])) (upd (upd H5 t (HO.tup [wd, V.int ct])) D (.lst (xs ++ [.ref t]))) := tp_lst hD6
      have k25 : Kp p H2 H5 := k24.trans k5
      obtain ⟨it, hit, hitf, hitc⟩ : ∃ it, FI K (upd H5 t (HO.tup [wd, V.int ct])) (.ref t) it ∧ isFlat it ∧ (cntOf it).natAbs ≤ reach.natAbs + 3 := by
        rcases List.mem_cons.mp hwd with e | hwd
        · subst e
          exact ⟨.step ct, .inl ⟨t, ct, rfl, SqT.of upd_same, rfl⟩, trivial, Nat.le_trans hct hmc⟩
        rcases List.mem_cons.mp hwd with e | hwd
        · subst e
          exact ⟨.turn ct, .inr ⟨t, ct, rfl, SqT.of upd_same, rfl⟩, trivial, Nat.le_trans hct hmc⟩
        exact absurd hwd List.not_mem_nil
      refine ⟨xs ++ [.ref t], b ++ [it], _, _, _, rfl, fun x o nx ex => ?_, ?_, upd_same, FIs.snoc (hF.tp ((pen2.tp k25).trans ((Same.tp z3).trans t2))) (hit.tp t2), ?_, fun j hj => ?_, fun j hj => ?_⟩
      · rw [upd_ne (ne_of_none ex nD)]
        have ex5 := k25 _ _ nx (k2 _ _ nx ex)
        rw [upd_ne (ne_of_none ex5 nt)]
        exact ex5
      · exact ((pen5.same z3).mono (by omega)).upd npD ncD
      · rw [List.length_append]
        have := hfl.len
        show b.length + 1 ≤ i + 1
        omega
      · rcases List.mem_append.mp hj with h | h
        · exact hfl.flat j h
        · cases List.mem_singleton.mp h
          exact hitf
      · rcases List.mem_append.mp hj with h | h
        · exact hfl.cnt j h
        · cases List.mem_singleton.mp h
          exact hitc
    · rintro σ H2 ⟨xs, b, y, z, u, rfl, k2, pen2, hD2, hF, hfl⟩
      exact ⟨_, rfl, k D xs b H2 nD k2 (pen2.mono (by omega)) hD2 hF ⟨Nat.le_trans hfl.len (by omega), hfl.flat, hfl.cnt⟩⟩
theorem sc__law_shift : FnScope ["_law_program", "_law_part"] ["_law_program"] (defScope s__law_shift) := ⟨rfl, rfl, rfl, by decide +kernel, rfl, by decide +kernel, by decide +kernel⟩
theorem ok__law_shift (k : Nat) (C__law_shift : Cal P w K mg base (k + 0) "_law_shift" (sp__law_shift K k)) {f : Addr} {fd : FuncData} (F : Fun K "_law_shift" "_law_shift" s__law_shift f fd) (B : Blt mg) : FnOk P w K mg base CX0 (k + 0 + 1) f fd ["_law_program"] (sp__law_shift K (k + 1)) := by
  refine F.ok sc__law_shift (fun vs H Q E h => ?_) (fun cdv A outer s H vs Q E hr h => ?_)
  · obtain ⟨v, b, rfl, _⟩ := h
    rfl
  · obtain ⟨v, b, rfl, hv, hd, hk, hw, hl, q⟩ := h
    have nd := sc__law_shift.nd
    obtain ⟨a, xs, rfl, hsq, hI⟩ := hv.inv
    rcases hsq with hs | hs
    · refine ⟨_, (pss_one (ps_ret (pe_callB (cr_sum rfl) (by rfl) B.sum (by decide +kernel) (pa_cons (pe_lc (own := [("_law_part", 1)]) (by rfl) nd (pi_list (pv 0)) (blkOk_by (N := ["_law_program", "_law_part"]) (sc := defScope s__law_shift) (own := [("_law_part", 1)]) (by decide +kernel)) (fun _ _ _ _ _ => (pg_name (i := 1) nd rfl (.inl rfl))) (fun _ _ _ _ _ => pts_nil) (fun _ _ _ _ _ => (pe_op op_mulW (pe_ix (ix_tupK K rfl) (pv 1) pe_int (fun _ _ => rfl)) (pe_ifExp (pt_cmpR op_eq (pe_ix (ix_tupK K rfl) (pv 1) pe_int (fun _ _ => rfl)) pe_str (nomark _)) (pe_c C__law_shift hr (by omega) (by rfl) (pa_cons (pe_ix (ix_tupK K rfl) (pv 1) pe_int (fun _ _ => rfl)) pa_nil)) (pe_callTy call_int1 (by rfl) B.int (by decide +kernel) (pa_cons (pe_cmpR op_eq (pe_ix (ix_tupK K rfl) (pv 1) pe_int (fun _ _ => rfl)) pe_str (nomark _)) pa_nil)))))) pa_nil)))), ?_⟩
      dsimp only [tNext, tSeq, tRet, tCB, tCons, tNil]
      refine lcIvL (K := K) shI (fun R r => ⟨_, rfl, r⟩) hs hI (by omega) (fun _ => rfl) (fun t htm x H2 s2 hx R r => ?_) fun D H2 nD s2 hD => ⟨D, b.map shI, rfl, SqL.of hD, by rw [sh_sum]; exact q H2 s2⟩
      rcases hx.inv with ⟨c, n, rfl, ht, rfl⟩ | ⟨c, n, rfl, ht, rfl⟩ | ⟨c, n, y, bb, rfl, ht, hy, rfl⟩
      · have wi := WP_mem hw htm
        rw [WI] at wi
        refine ⟨_, rfl, c, _, 1, _, rfl, rfl, ht, rfl, _, rfl, c, _, 0, _, rfl, rfl, ht, rfl, rfl, _, rfl, iteN v_sr ?_⟩
        refine ⟨_, rfl, c, _, 0, _, rfl, rfl, ht, rfl, rfl, .inr ⟨_, rfl, ?_⟩⟩
        rw [show decide (V.str "step" = V.str "step") = true from decide_eq_true rfl]
        refine ⟨n, 1, rfl, rfl, wide_mul (a := 101) (b := 1) (Nat.lt_of_le_of_lt wi (by decide +kernel)) (by decide) (by decide) (by decide) (by decide), ?_⟩
        have := r H2 (Same.refl _)
        rw [shI] at this
        show R (V.int (n * 1)) H2
        rw [Int.mul_one]
        exact this
      · have wi := WP_mem hw htm
        rw [WI] at wi
        refine ⟨_, rfl, c, _, 1, _, rfl, rfl, ht, rfl, _, rfl, c, _, 0, _, rfl, rfl, ht, rfl, rfl, _, rfl, iteN v_tr ?_⟩
        refine ⟨_, rfl, c, _, 0, _, rfl, rfl, ht, rfl, rfl, .inr ⟨_, rfl, ?_⟩⟩
        rw [show decide (V.str "turn" = V.str "step") = false from decide_eq_false v_ts]
        refine ⟨n, 0, rfl, rfl, wide_mul (a := 101) (b := 1) (Nat.lt_of_le_of_lt wi (by decide +kernel)) (by decide) (by decide) (by decide) (by decide), ?_⟩
        have := r H2 (Same.refl _)
        rw [shI] at this
        show R (V.int (n * 0)) H2
        rw [Int.mul_zero]
        exact this
      · have hdi := dpP_mem htm
        rw [dpI] at hdi
        have wi := WP_mem hw htm
        rw [WI] at wi
        refine ⟨_, rfl, c, _, 1, _, rfl, rfl, ht, rfl, _, rfl, c, _, 0, _, rfl, rfl, ht, rfl, rfl, _, rfl, iteS rfl ?_⟩
        refine ⟨_, rfl, c, _, 2, _, rfl, rfl, ht, rfl, y, bb, rfl, hy, by omega, by omega, wi.2.2, wi.2.1, fun H3 s3 => ?_⟩
        refine ⟨n, shP bb, rfl, rfl, wide_mul (a := 101) (b := 331) (Nat.lt_of_le_of_lt wi.1 (by decide +kernel)) (sh_lt (k := k) (by omega) (by omega) wi.2.2 wi.2.1) (by decide) (by decide) (by decide), ?_⟩
        have := r H3 s3
        rw [shI] at this
        exact this
    · refine ⟨_, (pss_one (ps_ret (pe_callB (cr_sum rfl) (by rfl) B.sum (by decide +kernel) (pa_cons (pe_lc (own := [("_law_part", 1)]) (by rfl) nd (pi_tup (pv 0)) (blkOk_by (N := ["_law_program", "_law_part"]) (sc := defScope s__law_shift) (own := [("_law_part", 1)]) (by decide +kernel)) (fun _ _ _ _ _ => (pg_name (i := 1) nd rfl (.inl rfl))) (fun _ _ _ _ _ => pts_nil) (fun _ _ _ _ _ => (pe_op op_mulW (pe_ix (ix_tupK K rfl) (pv 1) pe_int (fun _ _ => rfl)) (pe_ifExp (pt_cmpR op_eq (pe_ix (ix_tupK K rfl) (pv 1) pe_int (fun _ _ => rfl)) pe_str (nomark _)) (pe_c C__law_shift hr (by omega) (by rfl) (pa_cons (pe_ix (ix_tupK K rfl) (pv 1) pe_int (fun _ _ => rfl)) pa_nil)) (pe_callTy call_int1 (by rfl) B.int (by decide +kernel) (pa_cons (pe_cmpR op_eq (pe_ix (ix_tupK K rfl) (pv 1) pe_int (fun _ _ => rfl)) pe_str (nomark _)) pa_nil)))))) pa_nil)))), ?_⟩
      dsimp only [tNext, tSeq, tRet, tCB, tCons, tNil]
      refine lcIvT (K := K) shI (fun R r => ⟨_, rfl, r⟩) hs hI (by omega) (fun _ => rfl) (fun t htm x H2 s2 hx R r => ?_) fun D H2 nD s2 hD => ⟨D, b.map shI, rfl, SqL.of hD, by rw [sh_sum]; exact q H2 s2⟩
      rcases hx.inv with ⟨c, n, rfl, ht, rfl⟩ | ⟨c, n, rfl, ht, rfl⟩ | ⟨c, n, y, bb, rfl, ht, hy, rfl⟩
      · have wi := WP_mem hw htm
        rw [WI] at wi
        refine ⟨_, rfl, c, _, 1, _, rfl, rfl, ht, rfl, _, rfl, c, _, 0, _, rfl, rfl, ht, rfl, rfl, _, rfl, iteN v_sr ?_⟩
        refine ⟨_, rfl, c, _, 0, _, rfl, rfl, ht, rfl, rfl, .inr ⟨_, rfl, ?_⟩⟩
        rw [show decide (V.str "step" = V.str "step") = true from decide_eq_true rfl]
        refine ⟨n, 1, rfl, rfl, wide_mul (a := 101) (b := 1) (Nat.lt_of_le_of_lt wi (by decide +kernel)) (by decide) (by decide) (by decide) (by decide), ?_⟩
        have := r H2 (Same.refl _)
        rw [shI] at this
        show R (V.int (n * 1)) H2
        rw [Int.mul_one]
        exact this
      · have wi := WP_mem hw htm
        rw [WI] at wi
        refine ⟨_, rfl, c, _, 1, _, rfl, rfl, ht, rfl, _, rfl, c, _, 0, _, rfl, rfl, ht, rfl, rfl, _, rfl, iteN v_tr ?_⟩
        refine ⟨_, rfl, c, _, 0, _, rfl, rfl, ht, rfl, rfl, .inr ⟨_, rfl, ?_⟩⟩
        rw [show decide (V.str "turn" = V.str "step") = false from decide_eq_false v_ts]
        refine ⟨n, 0, rfl, rfl, wide_mul (a := 101) (b := 1) (Nat.lt_of_le_of_lt wi (by decide +kernel)) (by decide) (by decide) (by decide) (by decide), ?_⟩
        have := r H2 (Same.refl _)
        rw [shI] at this
        show R (V.int (n * 0)) H2
        rw [Int.mul_zero]
        exact this
      · have hdi := dpP_mem htm
        rw [dpI] at hdi
        have wi := WP_mem hw htm
        rw [WI] at wi
        refine ⟨_, rfl, c, _, 1, _, rfl, rfl, ht, rfl, _, rfl, c, _, 0, _, rfl, rfl, ht, rfl, rfl, _, rfl, iteS rfl ?_⟩
        refine ⟨_, rfl, c, _, 2, _, rfl, rfl, ht, rfl, y, bb, rfl, hy, by omega, by omega, wi.2.2, wi.2.1, fun H3 s3 => ?_⟩
        refine ⟨n, shP bb, rfl, rfl, wide_mul (a := 101) (b := 331) (Nat.lt_of_le_of_lt wi.1 (by decide +kernel)) (sh_lt (k := k) (by omega) (by omega) wi.2.2 wi.2.1) (by decide) (by decide) (by decide), ?_⟩
        have := r H3 s3
        rw [shI] at this
        exact this
theorem sc__law_flat_program : FnScope ["_law_pen_here", "_law_most", "_law_reach", "_law_rounds", "_law_found"] ["_law_pen_here", "_law_most", "_law_reach", "_law_rounds"] (defScope s__law_flat_program) := ⟨rfl, rfl, rfl, by decide +kernel, rfl, by decide +kernel, by decide +kernel⟩
theorem ok__law_flat_program {f : Addr} {fd : FuncData} (F : Fun K "_law_flat_program" "_law_flat_program" s__law_flat_program f fd) (B : Blt mg) (C__law_draw : Cal P w K mg base 1 "_law_draw" sp__law_draw) (C__law_body : Cal P w K mg base 3 "_law_body" (sp__law_body K)) : FnOk P w K mg base CX0 4 f fd ["_law_pen_here", "_law_most", "_law_reach", "_law_rounds"] (sp__law_flat_programC K) := by
  refine F.ok sc__law_flat_program (fun vs H Q E h => ?_) (fun cdv A outer s H vs Q E hr h => ?_)
  · obtain ⟨p, c, most, reach, rounds, n, rfl, _⟩ := h
    rfl
  · obtain ⟨p, c, most, reach, rounds, n, rfl, hm, hm2, hre, hre2, hro, hro2, pen, hn, k⟩ := h
    have nd := sc__law_flat_program.nd
    have hre9 : reach.natAbs < 10 ^ 90 := Nat.lt_of_le_of_lt (show reach.natAbs ≤ 10 ^ 30 by omega) (by decide +kernel)
    have hR : reach.natAbs + 3 ≤ 2 ^ 100 := Nat.le_trans (show reach.natAbs + 3 ≤ 10 ^ 30 + 3 by omega) (by decide +kernel)
    have hro9 : (rounds + 1).natAbs < 2 ^ 400 := Nat.lt_of_le_of_lt (show (rounds + 1).natAbs ≤ 10 ^ 30 + 1 by omega) (by decide +kernel)
    have hrn : ∀ r : Int, 0 ≤ r → r < rounds + 1 → r.natAbs ≤ 2 ^ 100 := fun r h0 h9 => Nat.le_trans (show r.natAbs ≤ 10 ^ 30 by omega) (by decide +kernel)
    have hmn : most.toNat ≤ 20 := by omega
    refine ⟨_, (pss_cons (ps_set (i := 4) nd rfl (.inl rfl) (pe_c C__law_body hr (by decide) (by rfl) (pa_cons (pv 0) (pa_cons (pv 1) (pa_cons (pv 2) pa_nil)))))
    (pss_cons (ps_if (pt_cmpR op_gt (pe_c C__law_draw hr (by decide) (by rfl) (pa_cons (pv 0) (pa_cons pe_int pa_nil))) pe_int (nomark _))
      (pss_cons (ps_expr (pe_bm PySem.F.plainAttrs_list PySem.F.slot_list_append PySem.F.type_list_append mt_append (pv 4) (pa_cons (pe_tup (pa_cons pe_str (pa_cons (pe_c C__law_draw hr (by decide) (by rfl) (pa_cons (pv 0) (pa_cons (pe_op op_add (pv 3) pe_int) pa_nil))) (pa_cons (pe_c C__law_body hr (by decide) (by rfl) (pa_cons (pv 0) (pa_cons (pv 1) (pa_cons (pv 2) pa_nil)))) pa_nil)))) pa_nil)))
    (pss_one (ps_set (i := 4) nd rfl (.inl rfl) (pe_op op_cat (pv 4) (pe_c C__law_body hr (by decide) (by rfl) (pa_cons (pv 0) (pa_cons (pv 1) (pa_cons (pv 2) pa_nil))))))))
      pss_nil)
    (pss_one (ps_ret (pv 4))))), ?_⟩
    refine ⟨_, rfl, _, rfl, _, rfl, p, c, most, reach, n, rfl, hm, by omega, hre, hre9, pen, by omega, fun D0 xs0 b0 H1 nD0 k1 pen1 hD0 hF0 fl0 => ?_⟩
    have npD := pen.np nD0
    have ncD := pen.nc nD0
    have l0 : xs0.length ≤ 1000 := by
      rw [hF0.len]
      have := fl0.len
      omega
    refine ⟨_, rfl, p, c, 3, _, rfl, by decide, by decide, pen1, by omega, fun r H2 r0 r9 k2 pen2 => ?_⟩
    have hD2 := kp_lst pen1 k2 hD0
    have hF2 := hF0.tp (pen1.tp k2)
    refine ⟨r, 0, rfl, rfl, _, rfl, ite2 (fun _ => ?_) fun _ => ?_⟩
    · refine ⟨_, rfl, .inl ⟨rfl, _, SqL.of hD2⟩, _, rfl, _, rfl, rounds, 1, rfl, rfl, p, c, rounds + 1, _, rfl, by omega, hro9, pen2, by omega, fun n2 H3 n20 n29 k3 pen3 => ?_⟩
      refine ⟨_, rfl, _, rfl, _, rfl, p, c, most, reach, _, rfl, hm, by omega, hre, hre9, pen3, by omega, fun D6 xs6 b6 H4 nD6 k4 pen4 hD6 hF6 fl6 => ?_⟩
      refine ⟨sl_of (show 3 ≤ 1000000 by decide), fun t1 nt1 => ?_⟩
      have y1 := same_new nt1 (o := HO.tup [V.str "repeat", V.int n2, V.ref D6])
      have hD3 := kp_lst pen2 k3 hD2
      have hD4 := kp_lst pen3 k4 hD3
      have hD5 := y1 _ _ hD4
      have ne6 : D0 ≠ D6 := ne_of_none hD3 nD6
      refine ⟨D0, xs0, _, rfl, rfl, hD5, sl_lt (by omega), ?_⟩
      have t5 : Tp (upd H4 t1 (HO.tup [V.str "repeat", V.int n2, V.ref D6])) (upd (upd H4 t1 (HO.tup [V.str "repeat", V.int n2, V.ref D6])) D0 (.lst (xs0 ++ [.ref t1]))) := tp_lst hD5
      have pen5 := (pen4.same y1).upd (o := HO.lst (xs0 ++ [.ref t1])) npD ncD
      have hD6' : (upd (upd H4 t1 (HO.tup [V.str "repeat", V.int n2, V.ref D6])) D0 (.lst (xs0 ++ [.ref t1]))) D6 = some (.lst xs6) := by
        rw [upd_ne ne6.symm]
        exact y1 _ _ hD6
      have hF6' := hF6.tp ((Same.tp y1).trans t5)
      have ht1 : IV K (upd (upd H4 t1 (HO.tup [V.str "repeat", V.int n2, V.ref D6])) D0 (.lst (xs0 ++ [.ref t1]))) (V.ref t1) (.rep n2 b6) := iv_rep (tp_t t5 (SqT.of upd_same)) (pv_list (SqL.of hD6') hF6'.ivs)
      have hF0' := hF2.tp ((pen2.tp k3).trans ((pen3.tp k4).trans ((Same.tp y1).trans t5)))
      have hI5 := IVs.app hF0'.ivs (.cons ht1 .nil)
      refine ⟨_, rfl, _, rfl, _, rfl, _, rfl, p, c, most, reach, _, rfl, hm, by omega, hre, hre9, pen5, by omega, fun D8 xs8 b8 H8 nD8 k8 pen9 hD8 hF8 fl8 => ?_⟩
      have l8 : xs8.length ≤ 1000 := by
        rw [hF8.len]
        have := fl8.len
        omega
      refine ⟨D0, D8, _, _, rfl, rfl, kp_lst pen5 k8 upd_same, hD8, sl_of (show (xs0 ++ [V.ref t1]).length + xs8.length ≤ 1000000 by rw [List.length_append]; show xs0.length + 1 + xs8.length ≤ 1000000; omega), fun c2 nc2 => ?_⟩
      have y4 := same_new nc2 (o := HO.lst ((xs0 ++ [V.ref t1]) ++ xs8))
      have k5 : Kp p H (upd (upd H4 t1 (HO.tup [V.str "repeat", V.int n2, V.ref D6])) D0 (.lst (xs0 ++ [.ref t1]))) := fun x o nx ex => by
        rw [upd_ne (ne_of_none ex nD0)]
        exact y1 _ _ (k4 _ _ nx (k3 _ _ nx (k2 _ _ nx (k1 _ _ nx ex))))
      refine ⟨_, rfl, k c2 _ _ _ (k5.trans (k8.trans (Same.kp y4))) ((pen9.same y4).mono (by omega)) upd_same (IVs.app ((hI5.kp pen5 k8).same y4) (hF8.ivs.same y4)) ?_ (CP_app (CP_app (flat_cp fl0) (by rw [CP_cons, CI, CP]; exact ⟨flat_cp fl6, trivial⟩)) (flat_cp fl8))⟩
      exact (((fl0.okR hR rounds).app ((fl6.okR hR rounds).rep (by omega) (hrn n2 n20 n29) n20 (by omega))).app (fl8.okR hR rounds)).up (by decide) (by omega)
    · exact ⟨_, rfl, k D0 xs0 b0 H2 (k1.trans k2) (pen2.mono (by omega)) hD2 hF2.ivs ((fl0.okR hR rounds).up (by decide) (by omega)) (flat_cp fl0)⟩
theorem sc__law_short_program : FnScope ["_law_pen_here", "_law_most", "_law_reach", "_law_rounds", "_law_found", "_law_inner"] ["_law_pen_here", "_law_most", "_law_reach", "_law_rounds"] (defScope s__law_short_program) := ⟨rfl, rfl, rfl, by decide +kernel, rfl, by decide +kernel, by decide +kernel⟩
theorem ok__law_short_program {f : Addr} {fd : FuncData} (F : Fun K "_law_short_program" "_law_short_program" s__law_short_program f fd) (B : Blt mg) (C__law_draw : Cal P w K mg base 1 "_law_draw" sp__law_draw) (C__law_body : Cal P w K mg base 3 "_law_body" (sp__law_body K)) (C__law_flat_program : Cal P w K mg base 4 "_law_flat_program" (sp__law_flat_programC K)) : FnOk P w K mg base CX0 5 f fd ["_law_pen_here", "_law_most", "_law_reach", "_law_rounds"] (sp__law_short_programC K) := by
  refine F.ok sc__law_short_program (fun vs H Q E h => ?_) (fun cdv A outer s H vs Q E hr h => ?_)
  · obtain ⟨p, c, most, reach, rounds, n, rfl, _⟩ := h
    rfl
  · obtain ⟨p, c, most, reach, rounds, n, rfl, hm, hm2, hre, hre2, hro, hro2, pen, hn, k⟩ := h
    have nd := sc__law_short_program.nd
    have hre9 : reach.natAbs < 10 ^ 90 := Nat.lt_of_le_of_lt (show reach.natAbs ≤ 10 ^ 30 by omega) (by decide +kernel)
    have hR : reach.natAbs + 3 ≤ 2 ^ 100 := Nat.le_trans (show reach.natAbs + 3 ≤ 10 ^ 30 + 3 by omega) (by decide +kernel)
    have hro9 : (rounds + 1).natAbs < 2 ^ 400 := Nat.lt_of_le_of_lt (show (rounds + 1).natAbs ≤ 10 ^ 30 + 1 by omega) (by decide +kernel)
    have hrn : ∀ r : Int, 0 ≤ r → r < rounds + 1 → r.natAbs ≤ 2 ^ 100 := fun r h0 h9 => Nat.le_trans (show r.natAbs ≤ 10 ^ 30 by omega) (by decide +kernel)
    have hmn : most.toNat ≤ 20 := by omega
    refine ⟨_, (pss_cons (ps_if (pt_cmpR op_eq (pe_c C__law_draw hr (by decide) (by rfl) (pa_cons (pv 0) (pa_cons pe_int pa_nil))) pe_int (nomark _))
      (pss_one (ps_ret (pe_c C__law_flat_program hr (by decide) (by rfl) (pa_cons (pv 0) (pa_cons (pv 1) (pa_cons (pv 2) (pa_cons (pv 3) pa_nil)))))))
      pss_nil)
    (pss_cons (ps_par (i := 4) (j := 5) (by rfl) nd rfl rfl (by decide) rfl rfl (pa_cons (pe_c C__law_body hr (by decide) (by rfl) (pa_cons (pv 0) (pa_cons (pv 1) (pa_cons (pv 2) pa_nil)))) (pa_cons (pe_c C__law_flat_program hr (by decide) (by rfl) (pa_cons (pv 0) (pa_cons (pv 1) (pa_cons (pv 2) (pa_cons (pv 3) pa_nil))))) pa_nil)) (by rfl))
    (pss_one (ps_ret (pe_op op_cat (pe_op op_cat (pv 4) (pe_lst (pa_cons (pe_tup (pa_cons pe_str (pa_cons (pe_c C__law_draw hr (by decide) (by rfl) (pa_cons (pv 0) (pa_cons (pe_op op_add (pv 3) pe_int) pa_nil))) (pa_cons (pv 5) pa_nil)))) pa_nil))) (pe_c C__law_body hr (by decide) (by rfl) (pa_cons (pv 0) (pa_cons (pv 1) (pa_cons (pv 2) pa_nil))))))))), ?_⟩
    refine ⟨_, rfl, p, c, 4, _, rfl, by decide, by decide, pen, by omega, fun r H1 r0 r9 k1 pen1 => ?_⟩
    refine ⟨rfl, _, rfl, ite2 (fun _ => ?_) fun _ => ?_⟩
    · exact ⟨_, rfl, _, rfl, _, rfl, _, rfl, p, c, most, reach, rounds, _, rfl, hm, hm2, hre, hre2, hro, hro2, pen1, by omega, fun F0 xs b H2 k2 pen2 hF hI ok cp => k F0 xs b H2 (k1.trans k2) (pen2.mono (by omega)) hF hI (ok.up (by decide) (by omega)) cp⟩
    · refine ⟨_, rfl, _, rfl, _, rfl, p, c, most, reach, _, rfl, hm, by omega, hre, hre9, pen1, by omega, fun D0 xs0 b0 H2 _ k2 pen2 hD0 hF0 fl0 => ?_⟩
      refine ⟨_, rfl, _, rfl, _, rfl, _, rfl, p, c, most, reach, rounds, _, rfl, hm, hm2, hre, hre2, hro, hro2, pen2, by omega, fun D1 xs1 b1 H3 k3 pen3 hD1 hI1 ok1 cp1 => ?_⟩
      refine ⟨_, _, rfl, ?_⟩
      refine ⟨_, rfl, _, rfl, _, rfl, rounds, 1, rfl, rfl, p, c, rounds + 1, _, rfl, by omega, hro9, pen3, by omega, fun n2 H4 n20 n29 k4 pen4 => ?_⟩
      refine ⟨_, rfl, sl_of (show 3 ≤ 1000000 by decide), fun t nt => ?_⟩
      have z1 := same_new nt (o := HO.tup [V.str "repeat", V.int n2, V.ref D1])
      refine ⟨sl_of (show 1 ≤ 1000000 by decide), fun l nl => ?_⟩
      have z2 := same_new nl (o := HO.lst [V.ref t])
      have l0 : xs0.length ≤ 1000 := by
        rw [hF0.len]
        have := fl0.len
        omega
      have hD4 := (z1.trans z2) _ _ (kp_lst pen3 k4 (kp_lst pen2 k3 hD0))
      refine ⟨D0, l, _, _, rfl, rfl, hD4, upd_same, sl_of (show xs0.length + 1 ≤ 1000000 by omega), fun c1 nc1 => ?_⟩
      have z3 := same_new nc1 (o := HO.lst (xs0 ++ [V.ref t]))
      have S4 := z1.trans (z2.trans z3)
      have hD1' := S4 _ _ (kp_lst pen3 k4 hD1)
      have ht : IV K _ (V.ref t) (.rep n2 b1) := iv_rep (same_t (z2.trans z3) (SqT.of (upd_same (H := H4) (o := HO.tup [V.str "repeat", V.int n2, V.ref D1])))) (pv_list (SqL.of hD1') ((hI1.kp pen3 k4).same S4))
      have hI4 := IVs.app (((hF0.ivs.kp pen2 k3).kp pen3 k4).same S4) (.cons ht .nil)
      have pen5 := pen4.same S4
      refine ⟨_, rfl, _, rfl, _, rfl, p, c, most, reach, _, rfl, hm, by omega, hre, hre9, pen5, by omega, fun D8 xs8 b8 H8 _ k8 pen9 hD8 hF8 fl8 => ?_⟩
      have l8 : xs8.length ≤ 1000 := by
        rw [hF8.len]
        have := fl8.len
        omega
      refine ⟨c1, D8, _, _, rfl, rfl, kp_lst pen5 k8 upd_same, hD8, sl_of (show (xs0 ++ [V.ref t]).length + xs8.length ≤ 1000000 by rw [List.length_append]; show xs0.length + 1 + xs8.length ≤ 1000000; omega), fun c2 nc2 => ?_⟩
      have y4 := same_new nc2 (o := HO.lst ((xs0 ++ [V.ref t]) ++ xs8))
      refine k c2 _ _ _ (k1.trans (k2.trans (k3.trans (k4.trans ((Same.kp S4).trans (k8.trans (Same.kp y4))))))) ((pen9.same y4).mono (by omega)) upd_same (IVs.app ((hI4.kp pen5 k8).same y4) (hF8.ivs.same y4)) ?_ (CP_app (CP_app (flat_cp fl0) (by rw [CP_cons, CI, CP]; exact ⟨cp1, trivial⟩)) (flat_cp fl8))
      exact (((fl0.okR hR rounds).app (ok1.rep (by omega) (hrn n2 n20 n29) n20 (by omega))).app (fl8.okR hR rounds)).up (by decide) (by omega)
theorem sc__law_backward : FnScope ["_law_program", "_law_found", "_law_part", "_law_undone_part"] ["_law_program"] (defScope s__law_backward) := ⟨rfl, rfl, rfl, by decide +kernel, rfl, by decide +kernel, by decide +kernel⟩
theorem ok__law_backward (k : Nat) (C__law_backward : Cal P w K mg base (k + 0) "_law_backward" (sp__law_backward K k)) {f : Addr} {fd : FuncData} (F : Fun K "_law_backward" "_law_backward" s__law_backward f fd) (B : Blt mg) : FnOk P w K mg base CX0 (k + 0 + 1) f fd ["_law_program"] (sp__law_backward K (k + 1)) := by
  refine F.ok sc__law_backward (fun vs H Q E h => ?_) (fun cdv A outer s H vs Q E hr h => ?_)
  · obtain ⟨v, b, rfl, _⟩ := h
    rfl
  · obtain ⟨v, b, rfl, hv, hd, hk, hc, q⟩ := h
    have nd := sc__law_backward.nd
    obtain ⟨a, xs, rfl, hsq, hI⟩ := hv.inv
    have hlb : b.length ≤ 1024 := Nat.le_trans (len_cnP b) hc
    rcases hsq with hs | hs
    · refine ⟨_, (pss_cons (ps_set (i := 1) nd rfl (.inl rfl) (pe_lst pa_nil))
    (pss_cons (ps_for PassesOwn.never rfl (pi_list (pv 0)) (pg_name (i := 2) nd rfl (.inl rfl))
      (pss_cons (ps_set (i := 3) nd rfl (.inl rfl) (pe_ifExp (pt_cmpR op_eq (pe_ix ix_tup (pv 2) pe_int (fun _ _ => rfl)) pe_str (nomark _)) (pe_tup (pa_cons pe_str (pa_cons (pe_ix ix_tup (pv 2) pe_int (fun _ _ => rfl)) (pa_cons (pe_c C__law_backward hr (by omega) (by rfl) (pa_cons (pe_ix ix_tup (pv 2) pe_int (fun _ _ => rfl)) pa_nil)) pa_nil)))) (pe_tup (pa_cons (pe_ix ix_tup (pv 2) pe_int (fun _ _ => rfl)) (pa_cons (pe_op op_sub pe_int (pe_ix ix_tup (pv 2) pe_int (fun _ _ => rfl))) pa_nil)))))
    (pss_one (ps_set (i := 1) nd rfl (.inl rfl) (pe_op op_cat (pe_lst (pa_cons (pv 3) pa_nil)) (pv 1))))))
    (pss_one (ps_ret (pv 1))))), ?_⟩
      refine ⟨Nat.zero_le _, fun D0 nD => ?_⟩
      have s1 := same_new nD (o := HO.lst [])
      refine ⟨_, rfl, a, rfl, ⟨_, same_l s1 hs⟩, for_list (K := K) (a := a) (xs := xs) (fun j σ H2 => ∃ (D : Addr) (ys : List V) (y2 y3 : Option V), σ = [some (.ref a), some (.ref D), y2, y3] ∧ Same H H2 ∧ H2 D = some (.lst ys) ∧ IVs K H2 ys (bkP (b.take j))) ⟨D0, [], none, none, rfl, s1, upd_same, by rw [List.take_zero, bkP_nil]; exact .nil⟩ ?_ ?_ ?_⟩
      · rintro j σ H2 _ ⟨_, _, _, _, _, s2, _⟩
        exact same_l s2 hs
      · rintro j x σ H2 hj ⟨D, ys, y2, y3, rfl, s2, hD2, hY⟩
        obtain ⟨i, hi, hx0⟩ := hI.get hj
        have hm := List.mem_of_getElem? hi
        have hjl : j < b.length := (List.getElem?_eq_some_iff.mp hi).1
        have hyl : ys.length ≤ 1024 := by
          rw [hY.len, bk_len, List.length_take]
          omega
        have hbk : bkP (b.take (j + 1)) = bkI i :: bkP (b.take j) := by
          rw [take_snoc hi, bkP_app, bkP_cons, bkP_nil]
          rfl
        have fin : ∀ (t l : Addr) (us : List V) (H3 : Hp), Same H2 H3 → (nt : H3 t = none) → (nl : upd H3 t (HO.tup us) l = none) → IV K (upd H3 t (HO.tup us)) (.ref t) (bkI i) → ∀ (y2' : Option V), ∀ c, (nc : upd (upd H3 t (HO.tup us)) l (HO.lst [.ref t]) c = none) → ∃ (D' : Addr) (ys' : List V) (y2 y3 : Option V), [some (.ref a), some (.ref c), y2', some (V.ref t)] = [some (.ref a), some (.ref D'), y2, y3] ∧ Same H (upd (upd (upd H3 t (HO.tup us)) l (HO.lst [.ref t])) c (HO.lst ([.ref t] ++ ys))) ∧ (upd (upd (upd H3 t (HO.tup us)) l (HO.lst [.ref t])) c (HO.lst ([.ref t] ++ ys))) D' = some (.lst ys') ∧ IVs K (upd (upd (upd H3 t (HO.tup us)) l (HO.lst [.ref t])) c (HO.lst ([.ref t] ++ ys))) ys' (bkP (b.take (j + 1))) := fun t l us H3 s3 nt nl hi' y2' c nc => by
          have S := (same_new nl (o := HO.lst [.ref t])).trans (same_new nc (o := HO.lst ([.ref t] ++ ys)))
          refine ⟨c, _, _, _, rfl, s2.trans (s3.trans ((same_new nt).trans S)), upd_same, ?_⟩
          rw [hbk]
          exact .cons (hi'.same S) (hY.same (s3.trans ((same_new nt).trans S)))
        rcases hx0.inv with ⟨e, c, rfl, ht0, rfl⟩ | ⟨e, c, rfl, ht0, rfl⟩ | ⟨e, c, y, bb, rfl, ht0, hy0, rfl⟩
        · have ht := same_t s2 ht0
          refine ⟨_, rfl, e, _, 0, _, rfl, rfl, ht, rfl, rfl, _, rfl, iteN v_sr ?_⟩
          refine ⟨_, rfl, e, _, 0, _, rfl, rfl, ht, rfl, _, rfl, e, _, 1, _, rfl, rfl, ht, rfl, 0, c, rfl, rfl, sl_of (show 2 ≤ 1000000 by decide), fun t nt => ?_⟩
          refine ⟨_, rfl, sl_of (show 1 ≤ 1000000 by decide), fun l nl => ?_⟩
          refine ⟨_, rfl, l, D, _, _, rfl, rfl, upd_same, ((same_new nt).trans (same_new nl)) _ _ hD2, sl_of (show 1 + ys.length ≤ 1000000 by omega), fun c2 nc2 => ?_⟩
          exact fin t l _ H2 (Same.refl _) nt nl (by rw [bkI]; exact iv_step (SqT.of upd_same)) _ c2 nc2
        · have ht := same_t s2 ht0
          refine ⟨_, rfl, e, _, 0, _, rfl, rfl, ht, rfl, rfl, _, rfl, iteN v_tr ?_⟩
          refine ⟨_, rfl, e, _, 0, _, rfl, rfl, ht, rfl, _, rfl, e, _, 1, _, rfl, rfl, ht, rfl, 0, c, rfl, rfl, sl_of (show 2 ≤ 1000000 by decide), fun t nt => ?_⟩
          refine ⟨_, rfl, sl_of (show 1 ≤ 1000000 by decide), fun l nl => ?_⟩
          refine ⟨_, rfl, l, D, _, _, rfl, rfl, upd_same, ((same_new nt).trans (same_new nl)) _ _ hD2, sl_of (show 1 + ys.length ≤ 1000000 by omega), fun c2 nc2 => ?_⟩
          exact fin t l _ H2 (Same.refl _) nt nl (by rw [bkI]; exact iv_turn (SqT.of upd_same)) _ c2 nc2
        · have ht := same_t s2 ht0
          have hdi := dpP_mem hm
          rw [dpI] at hdi
          have hcm := cnP_mem hm
          rw [cnI] at hcm
          refine ⟨_, rfl, e, _, 0, _, rfl, rfl, ht, rfl, rfl, _, rfl, iteS rfl ?_⟩
          refine ⟨_, rfl, e, _, 1, _, rfl, rfl, ht, rfl, _, rfl, e, _, 2, _, rfl, rfl, ht, rfl, y, bb, rfl, hy0.same s2, by omega, by omega, by omega, fun D2 zs H3 s3 hD3 hZ => ?_⟩
          refine ⟨sl_of (show 3 ≤ 1000000 by decide), fun t nt => ?_⟩
          refine ⟨_, rfl, sl_of (show 1 ≤ 1000000 by decide), fun l nl => ?_⟩
          refine ⟨_, rfl, l, D, _, _, rfl, rfl, upd_same, (s3.trans ((same_new nt).trans (same_new nl))) _ _ hD2, sl_of (show 1 + ys.length ≤ 1000000 by omega), fun c2 nc2 => ?_⟩
          exact fin t l _ H3 s3 nt nl (by rw [bkI]; exact iv_rep (SqT.of upd_same) ((pv_list (SqL.of hD3) hZ).same (same_new nt))) _ c2 nc2
      · rintro σ H2 ⟨D, ys, y2, y3, rfl, s2, hD2, hY⟩
        rw [hI.len, List.take_length] at hY
        exact ⟨_, rfl, q D ys H2 s2 hD2 hY⟩
    · refine ⟨_, (pss_cons (ps_set (i := 1) nd rfl (.inl rfl) (pe_lst pa_nil))
    (pss_cons (ps_for PassesOwn.never rfl (pi_tup (pv 0)) (pg_name (i := 2) nd rfl (.inl rfl))
      (pss_cons (ps_set (i := 3) nd rfl (.inl rfl) (pe_ifExp (pt_cmpR op_eq (pe_ix ix_tup (pv 2) pe_int (fun _ _ => rfl)) pe_str (nomark _)) (pe_tup (pa_cons pe_str (pa_cons (pe_ix ix_tup (pv 2) pe_int (fun _ _ => rfl)) (pa_cons (pe_c C__law_backward hr (by omega) (by rfl) (pa_cons (pe_ix ix_tup (pv 2) pe_int (fun _ _ => rfl)) pa_nil)) pa_nil)))) (pe_tup (pa_cons (pe_ix ix_tup (pv 2) pe_int (fun _ _ => rfl)) (pa_cons (pe_op op_sub pe_int (pe_ix ix_tup (pv 2) pe_int (fun _ _ => rfl))) pa_nil)))))
    (pss_one (ps_set (i := 1) nd rfl (.inl rfl) (pe_op op_cat (pe_lst (pa_cons (pv 3) pa_nil)) (pv 1))))))
    (pss_one (ps_ret (pv 1))))), ?_⟩
      refine ⟨Nat.zero_le _, fun D0 nD => ?_⟩
      have s1 := same_new nD (o := HO.lst [])
      refine ⟨_, rfl, a, rfl, ⟨_, same_t s1 hs⟩, for_tup (K := K) (a := a) (xs := xs) (fun j σ H2 => ∃ (D : Addr) (ys : List V) (y2 y3 : Option V), σ = [some (.ref a), some (.ref D), y2, y3] ∧ Same H H2 ∧ H2 D = some (.lst ys) ∧ IVs K H2 ys (bkP (b.take j))) ⟨D0, [], none, none, rfl, s1, upd_same, by rw [List.take_zero, bkP_nil]; exact .nil⟩ ?_ ?_ ?_⟩
      · rintro j σ H2 _ ⟨_, _, _, _, _, s2, _⟩
        exact same_t s2 hs
      · rintro j x σ H2 hj ⟨D, ys, y2, y3, rfl, s2, hD2, hY⟩
        obtain ⟨i, hi, hx0⟩ := hI.get hj
        have hm := List.mem_of_getElem? hi
        have hjl : j < b.length := (List.getElem?_eq_some_iff.mp hi).1
        have hyl : ys.length ≤ 1024 := by
          rw [hY.len, bk_len, List.length_take]
          omega
        have hbk : bkP (b.take (j + 1)) = bkI i :: bkP (b.take j) := by
          rw [take_snoc hi, bkP_app, bkP_cons, bkP_nil]
          rfl
        have fin : ∀ (t l : Addr) (us : List V) (H3 : Hp), Same H2 H3 → (nt : H3 t = none) → (nl : upd H3 t (HO.tup us) l = none) → IV K (upd H3 t (HO.tup us)) (.ref t) (bkI i) → ∀ (y2' : Option V), ∀ c, (nc : upd (upd H3 t (HO.tup us)) l (HO.lst [.ref t]) c = none) → ∃ (D' : Addr) (ys' : List V) (y2 y3 : Option V), [some (.ref a), some (.ref c), y2', some (V.ref t)] = [some (.ref a), some (.ref D'), y2, y3] ∧ Same H (upd (upd (upd H3 t (HO.tup us)) l (HO.lst [.ref t])) c (HO.lst ([.ref t] ++ ys))) ∧ (upd (upd (upd H3 t (HO.tup us)) l (HO.lst [.ref t])) c (HO.lst ([.ref t] ++ ys))) D' = some (.lst ys') ∧ IVs K (upd (upd (upd H3 t (HO.tup us)) l (HO.lst [.ref t])) c (HO.lst ([.ref t] ++ ys))) ys' (bkP (b.take (j + 1))) := fun t l us H3 s3 nt nl hi' y2' c nc => by
          have S := (same_new nl (o := HO.lst [.ref t])).trans (same_new nc (o := HO.lst ([.ref t] ++ ys)))
          refine ⟨c, _, _, _, rfl, s2.trans (s3.trans ((same_new nt).trans S)), upd_same, ?_⟩
          rw [hbk]
          exact .cons (hi'.same S) (hY.same (s3.trans ((same_new nt).trans S)))
        rcases hx0.inv with ⟨e, c, rfl, ht0, rfl⟩ | ⟨e, c, rfl, ht0, rfl⟩ | ⟨e, c, y, bb, rfl, ht0, hy0, rfl⟩
        · have ht := same_t s2 ht0
          refine ⟨_, rfl, e, _, 0, _, rfl, rfl, ht, rfl, rfl, _, rfl, iteN v_sr ?_⟩
          refine ⟨_, rfl, e, _, 0, _, rfl, rfl, ht, rfl, _, rfl, e, _, 1, _, rfl, rfl, ht, rfl, 0, c, rfl, rfl, sl_of (show 2 ≤ 1000000 by decide), fun t nt => ?_⟩
          refine ⟨_, rfl, sl_of (show 1 ≤ 1000000 by decide), fun l nl => ?_⟩
          refine ⟨_, rfl, l, D, _, _, rfl, rfl, upd_same, ((same_new nt).trans (same_new nl)) _ _ hD2, sl_of (show 1 + ys.length ≤ 1000000 by omega), fun c2 nc2 => ?_⟩
          exact fin t l _ H2 (Same.refl _) nt nl (by rw [bkI]; exact iv_step (SqT.of upd_same)) _ c2 nc2
        · have ht := same_t s2 ht0
          refine ⟨_, rfl, e, _, 0, _, rfl, rfl, ht, rfl, rfl, _, rfl, iteN v_tr ?_⟩
          refine ⟨_, rfl, e, _, 0, _, rfl, rfl, ht, rfl, _, rfl, e, _, 1, _, rfl, rfl, ht, rfl, 0, c, rfl, rfl, sl_of (show 2 ≤ 1000000 by decide), fun t nt => ?_⟩
          refine ⟨_, rfl, sl_of (show 1 ≤ 1000000 by decide), fun l nl => ?_⟩
          refine ⟨_, rfl, l, D, _, _, rfl, rfl, upd_same, ((same_new nt).trans (same_new nl)) _ _ hD2, sl_of (show 1 + ys.length ≤ 1000000 by omega), fun c2 nc2 => ?_⟩
          exact fin t l _ H2 (Same.refl _) nt nl (by rw [bkI]; exact iv_turn (SqT.of upd_same)) _ c2 nc2
        · have ht := same_t s2 ht0
          have hdi := dpP_mem hm
          rw [dpI] at hdi
          have hcm := cnP_mem hm
          rw [cnI] at hcm
          refine ⟨_, rfl, e, _, 0, _, rfl, rfl, ht, rfl, rfl, _, rfl, iteS rfl ?_⟩
          refine ⟨_, rfl, e, _, 1, _, rfl, rfl, ht, rfl, _, rfl, e, _, 2, _, rfl, rfl, ht, rfl, y, bb, rfl, hy0.same s2, by omega, by omega, by omega, fun D2 zs H3 s3 hD3 hZ => ?_⟩
          refine ⟨sl_of (show 3 ≤ 1000000 by decide), fun t nt => ?_⟩
          refine ⟨_, rfl, sl_of (show 1 ≤ 1000000 by decide), fun l nl => ?_⟩
          refine ⟨_, rfl, l, D, _, _, rfl, rfl, upd_same, (s3.trans ((same_new nt).trans (same_new nl))) _ _ hD2, sl_of (show 1 + ys.length ≤ 1000000 by omega), fun c2 nc2 => ?_⟩
          exact fin t l _ H3 s3 nt nl (by rw [bkI]; exact iv_rep (SqT.of upd_same) ((pv_list (SqL.of hD3) hZ).same (same_new nt))) _ c2 nc2
      · rintro σ H2 ⟨D, ys, y2, y3, rfl, s2, hD2, hY⟩
        rw [hI.len, List.take_length] at hY
        exact ⟨_, rfl, q D ys H2 s2 hD2 hY⟩
theorem sc__law_stepped : FnScope ["_law_program", "_law_factor", "_law_found", "_law_part"] ["_law_program", "_law_factor"] (defScope s__law_stepped) := ⟨rfl, rfl, rfl, by decide +kernel, rfl, by decide +kernel, by decide +kernel⟩
theorem ok__law_stepped (k : Nat) (C__law_stepped : Cal P w K mg base (k + 0) "_law_stepped" (sp__law_stepped K k)) {f : Addr} {fd : FuncData} (F : Fun K "_law_stepped" "_law_stepped" s__law_stepped f fd) (B : Blt mg) : FnOk P w K mg base CX0 (k + 0 + 1) f fd ["_law_program", "_law_factor"] (sp__law_stepped K (k + 1)) := by
  refine F.ok sc__law_stepped (fun vs H Q E h => ?_) (fun cdv A outer s H vs Q E hr h => ?_)
  · obtain ⟨v, fa, b, rfl, _⟩ := h
    rfl
  · obtain ⟨v, fa, b, rfl, hv, hd, hk, hc, hw, hf, q⟩ := h
    have nd := sc__law_stepped.nd
    obtain ⟨a, xs, rfl, hsq, hI⟩ := hv.inv
    have hlb : b.length ≤ 1024 := Nat.le_trans (len_cnP b) hc
    rcases hsq with hs | hs
    · refine ⟨_, (pss_cons (ps_set (i := 2) nd rfl (.inl rfl) (pe_lst pa_nil))
    (pss_cons (ps_for PassesOwn.never rfl (pi_list (pv 0)) (pg_name (i := 3) nd rfl (.inl rfl))
      (pss_one (ps_if (pt_cmpR op_eq (pe_ix ix_tup (pv 3) pe_int (fun _ _ => rfl)) pe_str (nomark _))
      (pss_one (ps_expr (pe_bm PySem.F.plainAttrs_list PySem.F.slot_list_append PySem.F.type_list_append mt_append (pv 2) (pa_cons (pe_tup (pa_cons pe_str (pa_cons (pe_ix ix_tup (pv 3) pe_int (fun _ _ => rfl)) (pa_cons (pe_c C__law_stepped hr (by omega) (by rfl) (pa_cons (pe_ix ix_tup (pv 3) pe_int (fun _ _ => rfl)) (pa_cons (pv 1) pa_nil))) pa_nil)))) pa_nil))))
      (pss_one (ps_expr (pe_bm PySem.F.plainAttrs_list PySem.F.slot_list_append PySem.F.type_list_append mt_append (pv 2) (pa_cons (pe_tup (pa_cons (pe_ix ix_tup (pv 3) pe_int (fun _ _ => rfl)) (pa_cons (pe_op op_mulW (pe_ix ix_tup (pv 3) pe_int (fun _ _ => rfl)) (pe_ifExp (pt_cmpR op_eq (pe_ix ix_tup (pv 3) pe_int (fun _ _ => rfl)) pe_str (nomark _)) (pv 1) pe_int)) pa_nil))) pa_nil)))))))
    (pss_one (ps_ret (pv 2))))), ?_⟩
      refine ⟨Nat.zero_le _, fun D nD => ?_⟩
      have s1 := same_new nD (o := HO.lst [])
      refine ⟨_, rfl, a, rfl, ⟨_, same_l s1 hs⟩, for_list (K := K) (a := a) (xs := xs) (fun j σ H2 => ∃ (ys : List V) (y3 : Option V), σ = [some (.ref a), some (.int fa), some (.ref D), y3] ∧ Same H H2 ∧ H2 D = some (.lst ys) ∧ IVs K (er1 D (er H H2)) ys (stP fa (b.take j))) ⟨[], none, rfl, s1, upd_same, by rw [List.take_zero, stP_nil]; exact .nil⟩ ?_ ?_ ?_⟩
      · rintro j σ H2 _ ⟨_, _, _, s2, _⟩
        exact same_l s2 hs
      · rintro j x σ H2 hj ⟨ys, y3, rfl, s2, hD2, hY⟩
        obtain ⟨i, hi, hx0⟩ := hI.get hj
        have hm := List.mem_of_getElem? hi
        have hjl : j < b.length := (List.getElem?_eq_some_iff.mp hi).1
        have hyl : ys.length ≤ 1024 := by
          rw [hY.len, st_len, List.length_take]
          omega
        have wi := WP_mem hw hm
        have hst : stP fa (b.take (j + 1)) = stP fa (b.take j) ++ [stI fa i] := by
          rw [take_snoc hi, stP_app, stP_cons, stP_nil]
        have fin : ∀ (t : Addr) (us : List V) (H3 : Hp), Same H2 H3 → (nt : H3 t = none) → IV K (er1 D (er H (upd (upd H3 t (HO.tup us)) D (HO.lst (ys ++ [.ref t]))))) (.ref t) (stI fa i) → ∀ (z : V), ∃ (ys' : List V) (y3 : Option V), [some (.ref a), some (.int fa), some (.ref D), some z] = [some (.ref a), some (.int fa), some (.ref D), y3] ∧ Same H (upd (upd H3 t (HO.tup us)) D (HO.lst (ys ++ [.ref t]))) ∧ (upd (upd H3 t (HO.tup us)) D (HO.lst (ys ++ [.ref t]))) D = some (.lst ys') ∧ IVs K (er1 D (er H (upd (upd H3 t (HO.tup us)) D (HO.lst (ys ++ [.ref t]))))) ys' (stP fa (b.take (j + 1))) := fun t us H3 s3 nt hi' z => by
          refine ⟨_, _, rfl, same_mut (s2.trans (s3.trans (same_new nt))) nD, upd_same, ?_⟩
          rw [hst]
          exact IVs.app (hY.same ((er1_sameS (s3.trans (same_new nt))).trans er1_updS)) (.cons hi' .nil)
        rcases hx0.inv with ⟨e, c, rfl, ht0, rfl⟩ | ⟨e, c, rfl, ht0, rfl⟩ | ⟨e, c, y, bb, rfl, ht0, hy0, rfl⟩
        · have ht := same_t s2 ht0
          rw [WI] at wi
          refine ⟨_, rfl, e, _, 0, _, rfl, rfl, ht, rfl, rfl, _, rfl, iteN v_sr ?_⟩
          refine ⟨_, rfl, .inl ⟨rfl, _, SqL.of hD2⟩, _, rfl, e, _, 0, _, rfl, rfl, ht, rfl, _, rfl, e, _, 1, _, rfl, rfl, ht, rfl, _, rfl, e, _, 0, _, rfl, rfl, ht, rfl, rfl, _, rfl, iteS rfl ?_⟩
          refine ⟨_, rfl, c, fa, rfl, rfl, wide_mul (a := 101) (b := 5) (Nat.lt_of_le_of_lt wi (by decide +kernel)) (Nat.lt_of_le_of_lt hf (by decide)) (by decide) (by decide) (by decide), sl_of (show 2 ≤ 1000000 by decide), fun t nt => ?_⟩
          refine ⟨D, ys, _, rfl, rfl, same_new nt _ _ hD2, sl_lt (by omega), ?_⟩
          exact fin t _ H2 (Same.refl _) nt (by rw [stI]; exact iv_step (SqT.of (er1_tup s2 nt hD2))) _
        · have ht := same_t s2 ht0
          rw [WI] at wi
          refine ⟨_, rfl, e, _, 0, _, rfl, rfl, ht, rfl, rfl, _, rfl, iteN v_tr ?_⟩
          refine ⟨_, rfl, .inl ⟨rfl, _, SqL.of hD2⟩, _, rfl, e, _, 0, _, rfl, rfl, ht, rfl, _, rfl, e, _, 1, _, rfl, rfl, ht, rfl, _, rfl, e, _, 0, _, rfl, rfl, ht, rfl, rfl, _, rfl, iteN v_ts ?_⟩
          refine ⟨c, 1, rfl, rfl, wide_mul (a := 101) (b := 1) (Nat.lt_of_le_of_lt wi (by decide +kernel)) (by decide) (by decide) (by decide) (by decide), sl_of (show 2 ≤ 1000000 by decide), fun t nt => ?_⟩
          refine ⟨D, ys, _, rfl, rfl, same_new nt _ _ hD2, sl_lt (by omega), ?_⟩
          exact fin t _ H2 (Same.refl _) nt (by rw [stI, show Ins.turn c = Ins.turn (c * 1) by rw [Int.mul_one]]; exact iv_turn (SqT.of (er1_tup s2 nt hD2))) _
        · have ht := same_t s2 ht0
          rw [WI] at wi
          have hdi := dpP_mem hm
          rw [dpI] at hdi
          have hcm := cnP_mem hm
          rw [cnI] at hcm
          refine ⟨_, rfl, e, _, 0, _, rfl, rfl, ht, rfl, rfl, _, rfl, iteS rfl ?_⟩
          refine ⟨_, rfl, .inl ⟨rfl, _, SqL.of hD2⟩, _, rfl, e, _, 1, _, rfl, rfl, ht, rfl, _, rfl, e, _, 2, _, rfl, rfl, ht, rfl, _, rfl, y, fa, bb, rfl, hy0.same s2, by omega, by omega, by omega, wi.2.2, hf, fun D2 H3 s3 hu => ?_⟩
          refine ⟨sl_of (show 3 ≤ 1000000 by decide), fun t nt => ?_⟩
          have hD3 := s3 _ _ hD2
          refine ⟨D, ys, _, rfl, rfl, same_new nt _ _ hD3, sl_lt (by omega), ?_⟩
          exact fin t _ H3 s3 nt (by rw [stI]; exact iv_rep (SqT.of (er1_tup (s2.trans s3) nt hD3)) (hu.same ((er_inS s2 hD2).trans ((er1_sameS (same_new nt)).trans er1_updS)))) _
      · rintro σ H2 ⟨ys, y3, rfl, s2, hD2, hY⟩
        rw [hI.len, List.take_length] at hY
        refine ⟨_, rfl, q D H2 s2 (pv_list (SqL.of (er_of hD2 fun xs z => by rw [nD] at z; cases z)) (hY.same fun x o e => (er1_at e).2))⟩
    · refine ⟨_, (pss_cons (ps_set (i := 2) nd rfl (.inl rfl) (pe_lst pa_nil))
    (pss_cons (ps_for PassesOwn.never rfl (pi_tup (pv 0)) (pg_name (i := 3) nd rfl (.inl rfl))
      (pss_one (ps_if (pt_cmpR op_eq (pe_ix ix_tup (pv 3) pe_int (fun _ _ => rfl)) pe_str (nomark _))
      (pss_one (ps_expr (pe_bm PySem.F.plainAttrs_list PySem.F.slot_list_append PySem.F.type_list_append mt_append (pv 2) (pa_cons (pe_tup (pa_cons pe_str (pa_cons (pe_ix ix_tup (pv 3) pe_int (fun _ _ => rfl)) (pa_cons (pe_c C__law_stepped hr (by omega) (by rfl) (pa_cons (pe_ix ix_tup (pv 3) pe_int (fun _ _ => rfl)) (pa_cons (pv 1) pa_nil))) pa_nil)))) pa_nil))))
      (pss_one (ps_expr (pe_bm PySem.F.plainAttrs_list PySem.F.slot_list_append PySem.F.type_list_append mt_append (pv 2) (pa_cons (pe_tup (pa_cons (pe_ix ix_tup (pv 3) pe_int (fun _ _ => rfl)) (pa_cons (pe_op op_mulW (pe_ix ix_tup (pv 3) pe_int (fun _ _ => rfl)) (pe_ifExp (pt_cmpR op_eq (pe_ix ix_tup (pv 3) pe_int (fun _ _ => rfl)) pe_str (nomark _)) (pv 1) pe_int)) pa_nil))) pa_nil)))))))
    (pss_one (ps_ret (pv 2))))), ?_⟩
      refine ⟨Nat.zero_le _, fun D nD => ?_⟩
      have s1 := same_new nD (o := HO.lst [])
      refine ⟨_, rfl, a, rfl, ⟨_, same_t s1 hs⟩, for_tup (K := K) (a := a) (xs := xs) (fun j σ H2 => ∃ (ys : List V) (y3 : Option V), σ = [some (.ref a), some (.int fa), some (.ref D), y3] ∧ Same H H2 ∧ H2 D = some (.lst ys) ∧ IVs K (er1 D (er H H2)) ys (stP fa (b.take j))) ⟨[], none, rfl, s1, upd_same, by rw [List.take_zero, stP_nil]; exact .nil⟩ ?_ ?_ ?_⟩
      · rintro j σ H2 _ ⟨_, _, _, s2, _⟩
        exact same_t s2 hs
      · rintro j x σ H2 hj ⟨ys, y3, rfl, s2, hD2, hY⟩
        obtain ⟨i, hi, hx0⟩ := hI.get hj
        have hm := List.mem_of_getElem? hi
        have hjl : j < b.length := (List.getElem?_eq_some_iff.mp hi).1
        have hyl : ys.length ≤ 1024 := by
          rw [hY.len, st_len, List.length_take]
          omega
        have wi := WP_mem hw hm
        have hst : stP fa (b.take (j + 1)) = stP fa (b.take j) ++ [stI fa i] := by
          rw [take_snoc hi, stP_app, stP_cons, stP_nil]
        have fin : ∀ (t : Addr) (us : List V) (H3 : Hp), Same H2 H3 → (nt : H3 t = none) → IV K (er1 D (er H (upd (upd H3 t (HO.tup us)) D (HO.lst (ys ++ [.ref t]))))) (.ref t) (stI fa i) → ∀ (z : V), ∃ (ys' : List V) (y3 : Option V), [some (.ref a), some (.int fa), some (.ref D), some z] = [some (.ref a), some (.int fa), some (.ref D), y3] ∧ Same H (upd (upd H3 t (HO.tup us)) D (HO.lst (ys ++ [.ref t]))) ∧ (upd (upd H3 t (HO.tup us)) D (HO.lst (ys ++ [.ref t]))) D = some (.lst ys') ∧ IVs K (er1 D (er H (upd (upd H3 t (HO.tup us)) D (HO.lst (ys ++ [.ref t]))))) ys' (stP fa (b.take (j + 1))) := fun t us H3 s3 nt hi' z => by
          refine ⟨_, _, rfl, same_mut (s2.trans (s3.trans (same_new nt))) nD, upd_same, ?_⟩
          rw [hst]
          exact IVs.app (hY.same ((er1_sameS (s3.trans (same_new nt))).trans er1_updS)) (.cons hi' .nil)
        rcases hx0.inv with ⟨e, c, rfl, ht0, rfl⟩ | ⟨e, c, rfl, ht0, rfl⟩ | ⟨e, c, y, bb, rfl, ht0, hy0, rfl⟩
        · have ht := same_t s2 ht0
          rw [WI] at wi
          refine ⟨_, rfl, e, _, 0, _, rfl, rfl, ht, rfl, rfl, _, rfl, iteN v_sr ?_⟩
          refine ⟨_, rfl, .inl ⟨rfl, _, SqL.of hD2⟩, _, rfl, e, _, 0, _, rfl, rfl, ht, rfl, _, rfl, e, _, 1, _, rfl, rfl, ht, rfl, _, rfl, e, _, 0, _, rfl, rfl, ht, rfl, rfl, _, rfl, iteS rfl ?_⟩
          refine ⟨_, rfl, c, fa, rfl, rfl, wide_mul (a := 101) (b := 5) (Nat.lt_of_le_of_lt wi (by decide +kernel)) (Nat.lt_of_le_of_lt hf (by decide)) (by decide) (by decide) (by decide), sl_of (show 2 ≤ 1000000 by decide), fun t nt => ?_⟩
          refine ⟨D, ys, _, rfl, rfl, same_new nt _ _ hD2, sl_lt (by omega), ?_⟩
          exact fin t _ H2 (Same.refl _) nt (by rw [stI]; exact iv_step (SqT.of (er1_tup s2 nt hD2))) _
        · have ht := same_t s2 ht0
          rw [WI] at wi
          refine ⟨_, rfl, e, _, 0, _, rfl, rfl, ht, rfl, rfl, _, rfl, iteN v_tr ?_⟩
          refine ⟨_, rfl, .inl ⟨rfl, _, SqL.of hD2⟩, _, rfl, e, _, 0, _, rfl, rfl, ht, rfl, _, rfl, e, _, 1, _, rfl, rfl, ht, rfl, _, rfl, e, _, 0, _, rfl, rfl, ht, rfl, rfl, _, rfl, iteN v_ts ?_⟩
          refine ⟨c, 1, rfl, rfl, wide_mul (a := 101) (b := 1) (Nat.lt_of_le_of_lt wi (by decide +kernel)) (by decide) (by decide) (by decide) (by decide), sl_of (show 2 ≤ 1000000 by decide), fun t nt => ?_⟩
          refine ⟨D, ys, _, rfl, rfl, same_new nt _ _ hD2, sl_lt (by omega), ?_⟩
          exact fin t _ H2 (Same.refl _) nt (by rw [stI, show Ins.turn c = Ins.turn (c * 1) by rw [Int.mul_one]]; exact iv_turn (SqT.of (er1_tup s2 nt hD2))) _
        · have ht := same_t s2 ht0
          rw [WI] at wi
          have hdi := dpP_mem hm
          rw [dpI] at hdi
          have hcm := cnP_mem hm
          rw [cnI] at hcm
          refine ⟨_, rfl, e, _, 0, _, rfl, rfl, ht, rfl, rfl, _, rfl, iteS rfl ?_⟩
          refine ⟨_, rfl, .inl ⟨rfl, _, SqL.of hD2⟩, _, rfl, e, _, 1, _, rfl, rfl, ht, rfl, _, rfl, e, _, 2, _, rfl, rfl, ht, rfl, _, rfl, y, fa, bb, rfl, hy0.same s2, by omega, by omega, by omega, wi.2.2, hf, fun D2 H3 s3 hu => ?_⟩
          refine ⟨sl_of (show 3 ≤ 1000000 by decide), fun t nt => ?_⟩
          have hD3 := s3 _ _ hD2
          refine ⟨D, ys, _, rfl, rfl, same_new nt _ _ hD3, sl_lt (by omega), ?_⟩
          exact fin t _ H3 s3 nt (by rw [stI]; exact iv_rep (SqT.of (er1_tup (s2.trans s3) nt hD3)) (hu.same ((er_inS s2 hD2).trans ((er1_sameS (same_new nt)).trans er1_updS)))) _
      · rintro σ H2 ⟨ys, y3, rfl, s2, hD2, hY⟩
        rw [hI.len, List.take_length] at hY
        refine ⟨_, rfl, q D H2 s2 (pv_list (SqL.of (er_of hD2 fun xs z => by rw [nD] at z; cases z)) (hY.same fun x o e => (er1_at e).2))⟩
theorem sc__law_terms : FnScope ["_law_program", "_law_found", "_law_here", "_law_part", "_law_stride", "_law_factor", "_law_offset", "_law_rounds"] ["_law_program"] (defScope s__law_terms) := ⟨rfl, rfl, rfl, by decide +kernel, rfl, by decide +kernel, by decide +kernel⟩
theorem tvs_moved (here : Int) : ∀ (ts : List Tm) (x : Int), tvs (ts.map fun t => (⟨here + t.pl, t.co, t.rs⟩ : Tm)) x = tvs ts (x - here)
  | [], _ => rfl
  | t :: r, x => by
    have ih := tvs_moved here r x
    show t.co * wy t.rs (x - (here + t.pl)) + tvs (r.map fun t => (⟨here + t.pl, t.co, t.rs⟩ : Tm)) x = t.co * wy t.rs (x - here - t.pl) + tvs r (x - here)
    rw [ih, show x - (here + t.pl) = x - here - t.pl by omega]
theorem paired_map {α β : Type} {R : α → β → Prop} {g : α → β} (h : ∀ a, R a (g a)) : ∀ xs : List α, Paired R xs (xs.map g)
  | [] => .nil
  | a :: r => .cons (h a) (paired_map h r)
theorem tvs_grown (here c s : Int) (us : List Tm) (x : Int) : tvs (us.map fun t => (⟨here + t.pl, t.co, t.rs ++ [(c, s)]⟩ : Tm)) x = rsum (fun y => tvs us y) s c.toNat (x - here) := by
  have e : (us.map fun t => (⟨here + t.pl, t.co, t.rs ++ [(c, s)]⟩ : Tm)) = (us.map fun t => (⟨t.pl, t.co, t.rs ++ [(c, s)]⟩ : Tm)).map fun t => (⟨here + t.pl, t.co, t.rs⟩ : Tm) := by
    rw [List.map_map]
    rfl
  rw [e, tvs_moved, tvs_rep (n := c) (s := s) (paired_map (fun t => repd_pos (List.Perm.refl _)) us)]
theorem cat_pr {H : Hp} {x : V} {rs : Pol} {q u : Addr} {c s : Int} {Q : VK} (hx : TPol K H x rs) (hl : rs.length ≤ 100) (hu : SqT K H u [.ref q]) (hq : SqT K H q [.int c, .int s]) (k : ∀ v H', Same H H' → TPol K H' v (rs ++ [(c, s)]) → Q v H') : rCatA K x (.ref u) H Q := by
  obtain ⟨a, xs, rfl, hs, hP⟩ := hx
  refine cat_pol (c := u) hs hu (by rw [hP.len]; omega) (fun e => ?_) fun p np => ?_
  · subst e
    cases hP
    exact k _ _ (Same.refl H) ⟨u, _, rfl, hu, .cons ⟨q, rfl, hq⟩ .nil⟩
  · exact k _ _ (same_new np) ⟨p, _, rfl, SqT.of upd_same, Prs.tp (tp_new np) (hP.snoc ⟨q, rfl, hq⟩)⟩
theorem ok__law_terms (k : Nat) (C__law_terms : Cal P w K mg base (k + 3) "_law_terms" (sp__law_terms K k)) {f : Addr} {fd : FuncData} (F : Fun K "_law_terms" "_law_terms" s__law_terms f fd) (B : Blt mg) (C__law_shift : Cal P w K mg base (3 + 0) "_law_shift" (sp__law_shift K 3)) : FnOk P w K mg base CX0 (k + 3 + 1) f fd ["_law_program"] (sp__law_terms K (k + 1)) := by
  refine F.ok sc__law_terms (fun vs H Q E h => ?_) (fun cdv A outer s H vs Q E hr h => ?_)
  · obtain ⟨v, b, rfl, _⟩ := h
    rfl
  · obtain ⟨v, b, rfl, hv, hd, hk, hw, hn, hc, q⟩ := h
    have nd := sc__law_terms.nd
    obtain ⟨a, xs, rfl, hsq, hI⟩ := hv.inv
    have hlb : b.length ≤ 1024 := Nat.le_trans (len_cnP b) hc
    rcases hsq with hs | hs
    · refine ⟨_, (pss_cons (ps_par (i := 1) (j := 2) (by rfl) nd rfl rfl (by decide) rfl rfl (pa_cons (pe_lst pa_nil) (pa_cons pe_int pa_nil)) (by rfl))
    (pss_cons (ps_for PassesOwn.never rfl (pi_list (pv 0)) (pg_name (i := 3) nd rfl (.inl rfl))
      (pss_one (ps_if (pt_cmpR op_eq (pe_ix ix_tup (pv 3) pe_int (fun _ _ => rfl)) pe_str (nomark _))
      (pss_one (ps_set (i := 2) nd rfl (.inl rfl) (pe_op op_add (pv 2) (pe_ix ix_tup (pv 3) pe_int (fun _ _ => rfl)))))
      (pss_one (ps_if (pt_cmpR op_eq (pe_ix ix_tup (pv 3) pe_int (fun _ _ => rfl)) pe_str (nomark _))
      (pss_one (ps_expr (pe_bm PySem.F.plainAttrs_list PySem.F.slot_list_append PySem.F.type_list_append mt_append (pv 1) (pa_cons (pe_tup (pa_cons (pe_ix ix_tup (pv 3) pe_int (fun _ _ => rfl)) (pa_cons (pv 2) (pa_cons (pe_tup pa_nil) pa_nil)))) pa_nil))))
      (pss_one (ps_if (pt_cmpR op_gt (pe_ix ix_tup (pv 3) pe_int (fun _ _ => rfl)) pe_int (nomark _))
      (pss_cons (ps_set (i := 4) nd rfl (.inl rfl) (pe_c C__law_shift hr (by omega) (by rfl) (pa_cons (pe_ix ix_tup (pv 3) pe_int (fun _ _ => rfl)) pa_nil)))
    (pss_cons (ps_for PassesOwn.never rfl (pi_list (pe_c C__law_terms hr (by omega) (by rfl) (pa_cons (pe_ix ix_tup (pv 3) pe_int (fun _ _ => rfl)) pa_nil))) (pg_tup rfl (pgs_cons (pg_name (i := 5) nd rfl (.inl rfl)) (pgs_cons (pg_name (i := 6) nd rfl (.inl rfl)) (pgs_cons (pg_name (i := 7) nd rfl (.inl rfl)) pgs_nil))))
      (pss_one (ps_expr (pe_bm PySem.F.plainAttrs_list PySem.F.slot_list_append PySem.F.type_list_append mt_append (pv 1) (pa_cons (pe_tup (pa_cons (pv 5) (pa_cons (pe_op op_add (pv 2) (pv 6)) (pa_cons (pe_op op_catA (pv 7) (pe_tup (pa_cons (pe_tup (pa_cons (pe_ix ix_tup (pv 3) pe_int (fun _ _ => rfl)) (pa_cons (pv 4) pa_nil))) pa_nil))) pa_nil)))) pa_nil)))))
    (pss_one (ps_set (i := 2) nd rfl (.inl rfl) (pe_op op_add (pv 2) (pe_op op_mulW (pe_ix ix_tup (pv 3) pe_int (fun _ _ => rfl)) (pv 4)))))))
      pss_nil)))))))
    (pss_one (ps_ret (pv 1))))), ?_⟩
      refine ⟨Nat.zero_le _, fun D nD => ?_⟩
      have s1 := same_new nD (o := HO.lst [])
      refine ⟨_, _, rfl, _, rfl, a, rfl, ⟨_, same_l s1 hs⟩, for_list (K := K) (a := a) (xs := xs) (fun j σ H2 => ∃ (ys : List V) (ts : List Tm) (y3 y4 y5 y6 y7 : Option V), σ = [some (.ref a), some (.ref D), some (.int (shP (b.take j))), y3, y4, y5, y6, y7] ∧ Same H H2 ∧ H2 D = some (.lst ys) ∧ LTVs K H2 ys ts ∧ (∀ x, tvs ts x = seP (b.take j) x) ∧ (∀ t ∈ ts, LOk (k + 1) t) ∧ ts.length ≤ cnP (b.take j)) ⟨[], [], none, none, none, none, none, by rw [List.take_zero, shP_nil]; rfl, s1, upd_same, .nil, fun x => by rw [List.take_zero, seP_nil]; rfl, fun t h => absurd h List.not_mem_nil, Nat.zero_le _⟩ ?_ ?_ ?_⟩
      · rintro j σ H2 _ ⟨_, _, _, _, _, _, _, _, s2, _⟩
        exact same_l s2 hs
      · rintro j x σ H2 hj ⟨ys, ts, y3, y4, y5, y6, y7, rfl, s2, hD2, hT, hval, hok, hlen⟩
        obtain ⟨i, hi, hx0⟩ := hI.get hj
        have hm := List.mem_of_getElem? hi
        have hcj := cnP_take' b j
        have hcs := cnP_snoc' hi
        have hcj1 := cnP_take' b (j + 1)
        have wi := WP_mem hw hm
        have hyl := hT.len
        rcases hx0.inv with ⟨e, c, rfl, ht0, rfl⟩ | ⟨e, c, rfl, ht0, rfl⟩ | ⟨e, c, y, bb, rfl, ht0, hy0, rfl⟩
        · have ht := same_t s2 ht0
          refine ⟨_, rfl, e, _, 0, _, rfl, rfl, ht, rfl, rfl, _, rfl, iteS rfl ?_⟩
          refine ⟨_, rfl, _, rfl, e, _, 1, _, rfl, rfl, ht, rfl, _, _, rfl, rfl, ys, ts, some (.ref e), y4, y5, y6, y7, ?_, s2, hD2, hT, fun x => ?_, hok, by omega⟩
          · rw [shP_snoc hi, shI]
            rfl
          · rw [seP_snoc hi, seI, Int.add_zero]
            exact hval x
        · have ht := same_t s2 ht0
          refine ⟨_, rfl, e, _, 0, _, rfl, rfl, ht, rfl, rfl, _, rfl, iteN v_ts ?_⟩
          refine ⟨_, rfl, e, _, 0, _, rfl, rfl, ht, rfl, rfl, _, rfl, iteS rfl ?_⟩
          refine ⟨_, rfl, .inl ⟨rfl, _, SqL.of hD2⟩, _, rfl, e, _, 1, _, rfl, rfl, ht, rfl, _, rfl, Nat.zero_le _, fun e0 ne0 => ?_⟩
          have z1 := same_new ne0 (o := HO.tup [])
          refine ⟨sl_of (show 3 ≤ 1000000 by decide), fun t0 nt0 => ?_⟩
          have z2 := same_new nt0 (o := HO.tup [V.int c, V.int (shP (b.take j)), V.ref e0])
          have hD4 := (z1.trans z2) _ _ hD2
          rw [WI] at wi
          rw [cnI] at hcs
          refine ⟨D, ys, _, rfl, rfl, hD4, sl_lt (by omega), ?_⟩
          have t3 : Tp (upd (upd H2 e0 (HO.tup [])) t0 (HO.tup [V.int c, V.int (shP (b.take j)), V.ref e0])) (upd (upd (upd H2 e0 (HO.tup [])) t0 (HO.tup [V.int c, V.int (shP (b.take j)), V.ref e0])) D (.lst (ys ++ [.ref t0]))) := tp_lst hD4
          have hnew : LTermV K (upd (upd H2 e0 (HO.tup [])) t0 (HO.tup [V.int c, V.int (shP (b.take j)), V.ref e0])) (.ref t0) ⟨shP (b.take j), c, []⟩ := ⟨t0, _, rfl, SqT.of upd_same, e0, [], rfl, same_t z2 (SqT.of upd_same), .nil⟩
          refine ⟨ys ++ [.ref t0], ts ++ [⟨shP (b.take j), c, []⟩], some (.ref e), y4, y5, y6, y7, ?_, same_mut (s2.trans (z1.trans z2)) nD, upd_same, LTVs.app (hT.tp ((Same.tp (z1.trans z2)).trans t3)) (.cons (hnew.tp t3) .nil), fun x => ?_, fun t h => ?_, ?_⟩
          · rw [shP_snoc hi, shI, Int.add_zero]
            rfl
          · rw [tvs_app, hval, seP_snoc hi, seI]
            congr 1
            show c * (if x - shP (b.take j) = 0 then 1 else 0) + 0 = _
            rw [Int.add_zero]
            by_cases hx : x - shP (b.take j) = 0
            · rw [if_pos hx, if_pos (by omega), Int.mul_one]
            · rw [if_neg hx, if_neg (by omega), Int.mul_zero]
          · rcases List.mem_append.mp h with z | z
            · exact hok t z
            · cases List.mem_singleton.mp z
              exact ⟨wi, by show 0 + 1 ≤ k + 1; omega, fun r hr => absurd hr List.not_mem_nil⟩
          · rw [List.length_append]
            show ts.length + 1 ≤ _
            omega
        · have ht := same_t s2 ht0
          refine ⟨_, rfl, e, _, 0, _, rfl, rfl, ht, rfl, rfl, _, rfl, iteN v_rs ?_⟩
          refine ⟨_, rfl, e, _, 0, _, rfl, rfl, ht, rfl, rfl, _, rfl, iteN v_rt ?_⟩
          have hy2 := hy0.same s2
          have hni := NP_mem hn hm
          rw [NI] at hni
          rw [WI] at wi
          have hdi := dpP_mem hm
          rw [dpI] at hdi
          rw [cnI] at hcs
          have hcb : cnP bb ≤ 1024 := by omega
          refine ⟨_, rfl, e, _, 1, _, rfl, rfl, ht, rfl, c, 0, rfl, rfl, _, rfl, ite2 (fun hc0 => ?_) fun hc0 => ?_⟩
          · have hc1 : 0 < c := of_decide_eq_true hc0
            have hsb : (shP bb).natAbs ≤ 2 ^ 331 := Nat.le_of_lt (sh_lt (k := 3) (by omega) (by decide) wi.2.2 wi.2.1)
            refine ⟨_, rfl, e, _, 2, _, rfl, rfl, ht, rfl, y, bb, rfl, hy2, by omega, by decide, wi.2.2, wi.2.1, fun H3 s3 => ?_⟩
            refine ⟨_, rfl, e, _, 2, _, rfl, rfl, same_t s3 ht, rfl, y, bb, rfl, hy2.same s3, by omega, by omega, wi.2.2, hni.2, hcb, fun D2 zs us H4 s4 nD2 hD2' hZ hzv hzo hzl => ?_⟩
            have hD4 := (s3.trans s4) _ _ hD2
            have neD : D ≠ D2 := ne_of_none (s3 _ _ hD2) nD2
            have hzl2 := hZ.len
            refine ⟨D2, rfl, ⟨_, SqL.of hD2'⟩, for_list (K := K) (a := D2) (xs := zs) (fun m σ H5 => ∃ (ws : List V) (y5 y6 y7 : Option V), σ = [some (.ref a), some (.ref D), some (.int (shP (b.take j))), some (.ref e), some (.int (shP bb)), y5, y6, y7] ∧ Same H H5 ∧ H5 D = some (.lst ws) ∧ H5 D2 = some (.lst zs) ∧ LTVs K H5 zs us ∧ LTVs K H5 ws (ts ++ (us.take m).map fun t => (⟨shP (b.take j) + t.pl, t.co, t.rs ++ [(c, shP bb)]⟩ : Tm))) ⟨ys, y5, y6, y7, rfl, s2.trans (s3.trans s4), hD4, hD2', hZ, by rw [List.take_zero, List.map_nil, List.append_nil]; exact hT.tp (Same.tp (s3.trans s4))⟩ ?_ ?_ ?_⟩
            · rintro m σ H5 _ ⟨_, _, _, _, _, _, _, h5, _⟩
              exact SqL.of h5
            · rintro m z σ H5 hmz ⟨ws, y5', y6', y7', rfl, s5, hD5, hE5, hZ5, hW5⟩
              obtain ⟨t, ht5, q5, xr, rfl, hq5, hxr⟩ := hZ5.get hmz
              have hto := hzo t (List.mem_of_getElem? ht5)
              have hwl := hW5.len
              have hmu : m < us.length := (List.getElem?_eq_some_iff.mp ht5).1
              rw [List.length_append, List.length_map, List.length_take] at hwl
              have htl := hto.len
              refine ⟨q5, _, rfl, hq5, rfl, _, _, rfl, _, _, rfl, _, _, rfl, rfl, ?_⟩
              refine ⟨_, rfl, .inl ⟨rfl, _, SqL.of hD5⟩, _, rfl, _, rfl, _, rfl, _, _, rfl, rfl, _, rfl, _, rfl, e, _, 1, _, rfl, rfl, same_t s5 ht0, rfl, _, rfl, sl_of (show 2 ≤ 1000000 by decide), fun p1 n1 => ?_⟩
              have w1 := same_new n1 (o := HO.tup [V.int c, V.int (shP bb)])
              refine ⟨sl_of (show 1 ≤ 1000000 by decide), fun p2 n2 => ?_⟩
              have w2 := same_new n2 (o := HO.tup [V.ref p1])
              refine cat_pr (hxr.tp (Same.tp (w1.trans w2))) (by omega) (SqT.of upd_same) (same_t w2 (SqT.of upd_same)) fun v6 H6 w3 hv6 => ?_
              refine ⟨sl_of (show 3 ≤ 1000000 by decide), fun t0 nt0 => ?_⟩
              have w4 := same_new nt0 (o := HO.tup [V.int t.co, V.int (shP (b.take j) + t.pl), v6])
              have W := w1.trans (w2.trans (w3.trans w4))
              have hD6 := W _ _ hD5
              refine ⟨D, ws, _, rfl, rfl, hD6, sl_lt (by omega), ?_⟩
              have t6 : Tp (upd H6 t0 (HO.tup [V.int t.co, V.int (shP (b.take j) + t.pl), v6])) (upd (upd H6 t0 (HO.tup [V.int t.co, V.int (shP (b.take j) + t.pl), v6])) D (.lst (ws ++ [.ref t0]))) := tp_lst hD6
              have hnew : LTermV K (upd H6 t0 (HO.tup [V.int t.co, V.int (shP (b.take j) + t.pl), v6])) (.ref t0) ⟨shP (b.take j) + t.pl, t.co, t.rs ++ [(c, shP bb)]⟩ := ⟨t0, _, rfl, SqT.of upd_same, hv6.tp (Same.tp w4)⟩
              refine ⟨ws ++ [.ref t0], some (.int t.co), some (.int t.pl), some xr, rfl, same_mut (s5.trans W) nD, upd_same, ?_, hZ5.tp ((Same.tp W).trans t6), ?_⟩
              · rw [upd_ne neD.symm]
                exact W _ _ hE5
              · rw [take_snoc ht5, List.map_append, ← List.append_assoc]
                exact LTVs.app (hW5.tp ((Same.tp W).trans t6)) (.cons (hnew.tp t6) .nil)
            · rintro σ H5 ⟨ws, y5', y6', y7', rfl, s5, hD5, hE5, hZ5, hW5⟩
              rw [hzl2, List.take_length] at hW5
              refine ⟨_, rfl, _, rfl, e, _, 1, _, rfl, rfl, same_t s5 ht0, rfl, _, rfl, c, shP bb, rfl, rfl, wide_mul (a := 101) (b := 332) (Nat.lt_of_le_of_lt wi.1 (by decide +kernel)) (Nat.lt_of_le_of_lt hsb (by decide +kernel)) (by decide) (by decide) (by decide), _, _, rfl, rfl, ws, _, some (.ref e), some (.int (shP bb)), y5', y6', y7', ?_, s5, hD5, hW5, fun x => ?_, fun t h => ?_, ?_⟩
              · rw [shP_snoc hi, shI]
                rfl
              · rw [tvs_app, hval, seP_snoc hi, seI, tvs_grown, rsum_congr hzv]
              · rcases List.mem_append.mp h with z | z
                · exact hok t z
                · obtain ⟨t0, ht0m, rfl⟩ := List.mem_map.mp z
                  have hto := hzo t0 ht0m
                  refine ⟨hto.co, ?_, fun r hr => ?_⟩
                  · show (t0.rs ++ [(c, shP bb)]).length + 1 ≤ k + 1
                    rw [List.length_append]
                    have := hto.len
                    show t0.rs.length + 1 + 1 ≤ k + 1
                    omega
                  · rcases List.mem_append.mp hr with g | g
                    · exact hto.rs r g
                    · cases List.mem_singleton.mp g
                      refine ⟨hc1, ?_, hsb⟩
                      show c ≤ 2 ^ 100
                      have := wi.1
                      omega
              · rw [List.length_append, List.length_map]
                omega
          · have hc1 : c = 0 := by
              have : ¬ (0 < c) := fun z => hc0 (decide_eq_true z)
              have := hni.1
              omega
            refine ⟨ys, ts, some (.ref e), y4, y5, y6, y7, ?_, s2, hD2, hT, fun x => ?_, hok, by omega⟩
            · rw [shP_snoc hi, shI, hc1, Int.zero_mul, Int.add_zero]
              rfl
            · rw [seP_snoc hi, seI, hc1]
              show _ = _ + 0
              rw [Int.add_zero]
              exact hval x
      · rintro σ H2 ⟨ys, ts, y3, y4, y5, y6, y7, rfl, s2, hD2, hT, hval, hok, hlen⟩
        rw [hI.len, List.take_length] at *
        exact ⟨_, rfl, q D ys ts H2 s2 nD hD2 hT hval hok hlen⟩
    · refine ⟨_, (pss_cons (ps_par (i := 1) (j := 2) (by rfl) nd rfl rfl (by decide) rfl rfl (pa_cons (pe_lst pa_nil) (pa_cons pe_int pa_nil)) (by rfl))
    (pss_cons (ps_for PassesOwn.never rfl (pi_tup (pv 0)) (pg_name (i := 3) nd rfl (.inl rfl))
      (pss_one (ps_if (pt_cmpR op_eq (pe_ix ix_tup (pv 3) pe_int (fun _ _ => rfl)) pe_str (nomark _))
      (pss_one (ps_set (i := 2) nd rfl (.inl rfl) (pe_op op_add (pv 2) (pe_ix ix_tup (pv 3) pe_int (fun _ _ => rfl)))))
      (pss_one (ps_if (pt_cmpR op_eq (pe_ix ix_tup (pv 3) pe_int (fun _ _ => rfl)) pe_str (nomark _))
      (pss_one (ps_expr (pe_bm PySem.F.plainAttrs_list PySem.F.slot_list_append PySem.F.type_list_append mt_append (pv 1) (pa_cons (pe_tup (pa_cons (pe_ix ix_tup (pv 3) pe_int (fun _ _ => rfl)) (pa_cons (pv 2) (pa_cons (pe_tup pa_nil) pa_nil)))) pa_nil))))
      (pss_one (ps_if (pt_cmpR op_gt (pe_ix ix_tup (pv 3) pe_int (fun _ _ => rfl)) pe_int (nomark _))
      (pss_cons (ps_set (i := 4) nd rfl (.inl rfl) (pe_c C__law_shift hr (by omega) (by rfl) (pa_cons (pe_ix ix_tup (pv 3) pe_int (fun _ _ => rfl)) pa_nil)))
    (pss_cons (ps_for PassesOwn.never rfl (pi_list (pe_c C__law_terms hr (by omega) (by rfl) (pa_cons (pe_ix ix_tup (pv 3) pe_int (fun _ _ => rfl)) pa_nil))) (pg_tup rfl (pgs_cons (pg_name (i := 5) nd rfl (.inl rfl)) (pgs_cons (pg_name (i := 6) nd rfl (.inl rfl)) (pgs_cons (pg_name (i := 7) nd rfl (.inl rfl)) pgs_nil))))
      (pss_one (ps_expr (pe_bm PySem.F.plainAttrs_list PySem.F.slot_list_append PySem.F.type_list_append mt_append (pv 1) (pa_cons (pe_tup (pa_cons (pv 5) (pa_cons (pe_op op_add (pv 2) (pv 6)) (pa_cons (pe_op op_catA (pv 7) (pe_tup (pa_cons (pe_tup (pa_cons (pe_ix ix_tup (pv 3) pe_int (fun _ _ => rfl)) (pa_cons (pv 4) pa_nil))) pa_nil))) pa_nil)))) pa_nil)))))
    (pss_one (ps_set (i := 2) nd rfl (.inl rfl) (pe_op op_add (pv 2) (pe_op op_mulW (pe_ix ix_tup (pv 3) pe_int (fun _ _ => rfl)) (pv 4)))))))
      pss_nil)))))))
    (pss_one (ps_ret (pv 1))))), ?_⟩
      refine ⟨Nat.zero_le _, fun D nD => ?_⟩
      have s1 := same_new nD (o := HO.lst [])
      refine ⟨_, _, rfl, _, rfl, a, rfl, ⟨_, same_t s1 hs⟩, for_tup (K := K) (a := a) (xs := xs) (fun j σ H2 => ∃ (ys : List V) (ts : List Tm) (y3 y4 y5 y6 y7 : Option V), σ = [some (.ref a), some (.ref D), some (.int (shP (b.take j))), y3, y4, y5, y6, y7] ∧ Same H H2 ∧ H2 D = some (.lst ys) ∧ LTVs K H2 ys ts ∧ (∀ x, tvs ts x = seP (b.take j) x) ∧ (∀ t ∈ ts, LOk (k + 1) t) ∧ ts.length ≤ cnP (b.take j)) ⟨[], [], none, none, none, none, none, by rw [List.take_zero, shP_nil]; rfl, s1, upd_same, .nil, fun x => by rw [List.take_zero, seP_nil]; rfl, fun t h => absurd h List.not_mem_nil, Nat.zero_le _⟩ ?_ ?_ ?_⟩
      · rintro j σ H2 _ ⟨_, _, _, _, _, _, _, _, s2, _⟩
        exact same_t s2 hs
      · rintro j x σ H2 hj ⟨ys, ts, y3, y4, y5, y6, y7, rfl, s2, hD2, hT, hval, hok, hlen⟩
        obtain ⟨i, hi, hx0⟩ := hI.get hj
        have hm := List.mem_of_getElem? hi
        have hcj := cnP_take' b j
        have hcs := cnP_snoc' hi
        have hcj1 := cnP_take' b (j + 1)
        have wi := WP_mem hw hm
        have hyl := hT.len
        rcases hx0.inv with ⟨e, c, rfl, ht0, rfl⟩ | ⟨e, c, rfl, ht0, rfl⟩ | ⟨e, c, y, bb, rfl, ht0, hy0, rfl⟩
        · have ht := same_t s2 ht0
          refine ⟨_, rfl, e, _, 0, _, rfl, rfl, ht, rfl, rfl, _, rfl, iteS rfl ?_⟩
          refine ⟨_, rfl, _, rfl, e, _, 1, _, rfl, rfl, ht, rfl, _, _, rfl, rfl, ys, ts, some (.ref e), y4, y5, y6, y7, ?_, s2, hD2, hT, fun x => ?_, hok, by omega⟩
          · rw [shP_snoc hi, shI]
            rfl
          · rw [seP_snoc hi, seI, Int.add_zero]
            exact hval x
        · have ht := same_t s2 ht0
          refine ⟨_, rfl, e, _, 0, _, rfl, rfl, ht, rfl, rfl, _, rfl, iteN v_ts ?_⟩
          refine ⟨_, rfl, e, _, 0, _, rfl, rfl, ht, rfl, rfl, _, rfl, iteS rfl ?_⟩
          refine ⟨_, rfl, .inl ⟨rfl, _, SqL.of hD2⟩, _, rfl, e, _, 1, _, rfl, rfl, ht, rfl, _, rfl, Nat.zero_le _, fun e0 ne0 => ?_⟩
          have z1 := same_new ne0 (o := HO.tup [])
          refine ⟨sl_of (show 3 ≤ 1000000 by decide), fun t0 nt0 => ?_⟩
          have z2 := same_new nt0 (o := HO.tup [V.int c, V.int (shP (b.take j)), V.ref e0])
          have hD4 := (z1.trans z2) _ _ hD2
          rw [WI] at wi
          rw [cnI] at hcs
          refine ⟨D, ys, _, rfl, rfl, hD4, sl_lt (by omega), ?_⟩
          have t3 : Tp (upd (upd H2 e0 (HO.tup [])) t0 (HO.tup [V.int c, V.int (shP (b.take j)), V.ref e0])) (upd (upd (upd H2 e0 (HO.tup [])) t0 (HO.tup [V.int c, V.int (shP (b.take j)), V.ref e0])) D (.lst (ys ++ [.ref t0]))) := tp_lst hD4
          have hnew : LTermV K (upd (upd H2 e0 (HO.tup [])) t0 (HO.tup [V.int c, V.int (shP (b.take j)), V.ref e0])) (.ref t0) ⟨shP (b.take j), c, []⟩ := ⟨t0, _, rfl, SqT.of upd_same, e0, [], rfl, same_t z2 (SqT.of upd_same), .nil⟩
          refine ⟨ys ++ [.ref t0], ts ++ [⟨shP (b.take j), c, []⟩], some (.ref e), y4, y5, y6, y7, ?_, same_mut (s2.trans (z1.trans z2)) nD, upd_same, LTVs.app (hT.tp ((Same.tp (z1.trans z2)).trans t3)) (.cons (hnew.tp t3) .nil), fun x => ?_, fun t h => ?_, ?_⟩
          · rw [shP_snoc hi, shI, Int.add_zero]
            rfl
          · rw [tvs_app, hval, seP_snoc hi, seI]
            congr 1
            show c * (if x - shP (b.take j) = 0 then 1 else 0) + 0 = _
            rw [Int.add_zero]
            by_cases hx : x - shP (b.take j) = 0
            · rw [if_pos hx, if_pos (by omega), Int.mul_one]
            · rw [if_neg hx, if_neg (by omega), Int.mul_zero]
          · rcases List.mem_append.mp h with z | z
            · exact hok t z
            · cases List.mem_singleton.mp z
              exact ⟨wi, by show 0 + 1 ≤ k + 1; omega, fun r hr => absurd hr List.not_mem_nil⟩
          · rw [List.length_append]
            show ts.length + 1 ≤ _
            omega
        · have ht := same_t s2 ht0
          refine ⟨_, rfl, e, _, 0, _, rfl, rfl, ht, rfl, rfl, _, rfl, iteN v_rs ?_⟩
          refine ⟨_, rfl, e, _, 0, _, rfl, rfl, ht, rfl, rfl, _, rfl, iteN v_rt ?_⟩
          have hy2 := hy0.same s2
          have hni := NP_mem hn hm
          rw [NI] at hni
          rw [WI] at wi
          have hdi := dpP_mem hm
          rw [dpI] at hdi
          rw [cnI] at hcs
          have hcb : cnP bb ≤ 1024 := by omega
          refine ⟨_, rfl, e, _, 1, _, rfl, rfl, ht, rfl, c, 0, rfl, rfl, _, rfl, ite2 (fun hc0 => ?_) fun hc0 => ?_⟩
          · have hc1 : 0 < c := of_decide_eq_true hc0
            have hsb : (shP bb).natAbs ≤ 2 ^ 331 := Nat.le_of_lt (sh_lt (k := 3) (by omega) (by decide) wi.2.2 wi.2.1)
            refine ⟨_, rfl, e, _, 2, _, rfl, rfl, ht, rfl, y, bb, rfl, hy2, by omega, by decide, wi.2.2, wi.2.1, fun H3 s3 => ?_⟩
            refine ⟨_, rfl, e, _, 2, _, rfl, rfl, same_t s3 ht, rfl, y, bb, rfl, hy2.same s3, by omega, by omega, wi.2.2, hni.2, hcb, fun D2 zs us H4 s4 nD2 hD2' hZ hzv hzo hzl => ?_⟩
            have hD4 := (s3.trans s4) _ _ hD2
            have neD : D ≠ D2 := ne_of_none (s3 _ _ hD2) nD2
            have hzl2 := hZ.len
            refine ⟨D2, rfl, ⟨_, SqL.of hD2'⟩, for_list (K := K) (a := D2) (xs := zs) (fun m σ H5 => ∃ (ws : List V) (y5 y6 y7 : Option V), σ = [some (.ref a), some (.ref D), some (.int (shP (b.take j))), some (.ref e), some (.int (shP bb)), y5, y6, y7] ∧ Same H H5 ∧ H5 D = some (.lst ws) ∧ H5 D2 = some (.lst zs) ∧ LTVs K H5 zs us ∧ LTVs K H5 ws (ts ++ (us.take m).map fun t => (⟨shP (b.take j) + t.pl, t.co, t.rs ++ [(c, shP bb)]⟩ : Tm))) ⟨ys, y5, y6, y7, rfl, s2.trans (s3.trans s4), hD4, hD2', hZ, by rw [List.take_zero, List.map_nil, List.append_nil]; exact hT.tp (Same.tp (s3.trans s4))⟩ ?_ ?_ ?_⟩
            · rintro m σ H5 _ ⟨_, _, _, _, _, _, _, h5, _⟩
              exact SqL.of h5
            · rintro m z σ H5 hmz ⟨ws, y5', y6', y7', rfl, s5, hD5, hE5, hZ5, hW5⟩
              obtain ⟨t, ht5, q5, xr, rfl, hq5, hxr⟩ := hZ5.get hmz
              have hto := hzo t (List.mem_of_getElem? ht5)
              have hwl := hW5.len
              have hmu : m < us.length := (List.getElem?_eq_some_iff.mp ht5).1
              rw [List.length_append, List.length_map, List.length_take] at hwl
              have htl := hto.len
              refine ⟨q5, _, rfl, hq5, rfl, _, _, rfl, _, _, rfl, _, _, rfl, rfl, ?_⟩
              refine ⟨_, rfl, .inl ⟨rfl, _, SqL.of hD5⟩, _, rfl, _, rfl, _, rfl, _, _, rfl, rfl, _, rfl, _, rfl, e, _, 1, _, rfl, rfl, same_t s5 ht0, rfl, _, rfl, sl_of (show 2 ≤ 1000000 by decide), fun p1 n1 => ?_⟩
              have w1 := same_new n1 (o := HO.tup [V.int c, V.int (shP bb)])
              refine ⟨sl_of (show 1 ≤ 1000000 by decide), fun p2 n2 => ?_⟩
              have w2 := same_new n2 (o := HO.tup [V.ref p1])
              refine cat_pr (hxr.tp (Same.tp (w1.trans w2))) (by omega) (SqT.of upd_same) (same_t w2 (SqT.of upd_same)) fun v6 H6 w3 hv6 => ?_
              refine ⟨sl_of (show 3 ≤ 1000000 by decide), fun t0 nt0 => ?_⟩
              have w4 := same_new nt0 (o := HO.tup [V.int t.co, V.int (shP (b.take j) + t.pl), v6])
              have W := w1.trans (w2.trans (w3.trans w4))
              have hD6 := W _ _ hD5
              refine ⟨D, ws, _, rfl, rfl, hD6, sl_lt (by omega), ?_⟩
              have t6 : Tp (upd H6 t0 (HO.tup [V.int t.co, V.int (shP (b.take j) + t.pl), v6])) (upd (upd H6 t0 (HO.tup [V.int t.co, V.int (shP (b.take j) + t.pl), v6])) D (.lst (ws ++ [.ref t0]))) := tp_lst hD6
              have hnew : LTermV K (upd H6 t0 (HO.tup [V.int t.co, V.int (shP (b.take j) + t.pl), v6])) (.ref t0) ⟨shP (b.take j) + t.pl, t.co, t.rs ++ [(c, shP bb)]⟩ := ⟨t0, _, rfl, SqT.of upd_same, hv6.tp (Same.tp w4)⟩
              refine ⟨ws ++ [.ref t0], some (.int t.co), some (.int t.pl), some xr, rfl, same_mut (s5.trans W) nD, upd_same, ?_, hZ5.tp ((Same.tp W).trans t6), ?_⟩
              · rw [upd_ne neD.symm]
                exact W _ _ hE5
              · rw [take_snoc ht5, List.map_append, ← List.append_assoc]
                exact LTVs.app (hW5.tp ((Same.tp W).trans t6)) (.cons (hnew.tp t6) .nil)
            · rintro σ H5 ⟨ws, y5', y6', y7', rfl, s5, hD5, hE5, hZ5, hW5⟩
              rw [hzl2, List.take_length] at hW5
              refine ⟨_, rfl, _, rfl, e, _, 1, _, rfl, rfl, same_t s5 ht0, rfl, _, rfl, c, shP bb, rfl, rfl, wide_mul (a := 101) (b := 332) (Nat.lt_of_le_of_lt wi.1 (by decide +kernel)) (Nat.lt_of_le_of_lt hsb (by decide +kernel)) (by decide) (by decide) (by decide), _, _, rfl, rfl, ws, _, some (.ref e), some (.int (shP bb)), y5', y6', y7', ?_, s5, hD5, hW5, fun x => ?_, fun t h => ?_, ?_⟩
              · rw [shP_snoc hi, shI]
                rfl
              · rw [tvs_app, hval, seP_snoc hi, seI, tvs_grown, rsum_congr hzv]
              · rcases List.mem_append.mp h with z | z
                · exact hok t z
                · obtain ⟨t0, ht0m, rfl⟩ := List.mem_map.mp z
                  have hto := hzo t0 ht0m
                  refine ⟨hto.co, ?_, fun r hr => ?_⟩
                  · show (t0.rs ++ [(c, shP bb)]).length + 1 ≤ k + 1
                    rw [List.length_append]
                    have := hto.len
                    show t0.rs.length + 1 + 1 ≤ k + 1
                    omega
                  · rcases List.mem_append.mp hr with g | g
                    · exact hto.rs r g
                    · cases List.mem_singleton.mp g
                      refine ⟨hc1, ?_, hsb⟩
                      show c ≤ 2 ^ 100
                      have := wi.1
                      omega
              · rw [List.length_append, List.length_map]
                omega
          · have hc1 : c = 0 := by
              have : ¬ (0 < c) := fun z => hc0 (decide_eq_true z)
              have := hni.1
              omega
            refine ⟨ys, ts, some (.ref e), y4, y5, y6, y7, ?_, s2, hD2, hT, fun x => ?_, hok, by omega⟩
            · rw [shP_snoc hi, shI, hc1, Int.zero_mul, Int.add_zero]
              rfl
            · rw [seP_snoc hi, seI, hc1]
              show _ = _ + 0
              rw [Int.add_zero]
              exact hval x
      · rintro σ H2 ⟨ys, ts, y3, y4, y5, y6, y7, rfl, s2, hD2, hT, hval, hok, hlen⟩
        rw [hI.len, List.take_length] at *
        exact ⟨_, rfl, q D ys ts H2 s2 nD hD2 hT hval hok hlen⟩
theorem sc__law_below : FnScope ["_law_pen_here", "_law_count"] ["_law_pen_here", "_law_count"] (defScope s__law_below) := ⟨rfl, rfl, rfl, by decide +kernel, rfl, by decide +kernel, by decide +kernel⟩
theorem ok__law_below {f : Addr} {fd : FuncData} (F : Fun K "_law_below" "_law_below" s__law_below f fd) (B : Blt mg) (C__law_draw : Cal P w K mg base 1 "_law_draw" sp__law_draw) (C__law_pick : Cal P w K mg base 2 "_law_pick" sp__law_pick) : FnOk P w K mg base CX0 3 f fd ["_law_pen_here", "_law_count"] sp__law_below := by
  refine F.ok sc__law_below (fun vs H Q E h => ?_) (fun cdv A outer s H vs Q E hr h => ?_)
  · obtain ⟨p, c, n, m, rfl, _⟩ := h
    rfl
  · obtain ⟨p, c, n, m, rfl, hn, hn2, pen, hm, k⟩ := h
    have nd := sc__law_below.nd
    refine ⟨_, (pss_one (ps_ret (pe_c C__law_pick hr (by decide) (by rfl) (pa_cons (pv 0) (pa_cons (pe_lst (pa_cons pe_int (pa_cons (pe_op op_sub (pv 1) pe_int) (pa_cons (pe_c C__law_draw hr (by decide) (by rfl) (pa_cons (pv 0) (pa_cons (pv 1) pa_nil))) (pa_cons (pe_callB (call_min2 rfl) (by rfl) B.min (by decide +kernel) (pa_cons (pe_op op_sub (pv 1) pe_int) (pa_cons (pe_c C__law_draw hr (by decide) (by rfl) (pa_cons (pv 0) (pa_cons pe_int pa_nil))) pa_nil))) pa_nil))))) pa_nil))))), ?_⟩
    refine ⟨_, rfl, _, rfl, n, 1, rfl, rfl, _, rfl, _, rfl, p, c, n, m, rfl, by omega, Nat.lt_of_le_of_lt (show n.natAbs ≤ 2 ^ 100 by omega) (by decide +kernel), pen, by omega, fun r1 H1 r10 r19 k1 pen1 => ?_⟩
    refine ⟨_, rfl, n, 1, rfl, rfl, _, rfl, p, c, 5, _, rfl, by decide, by decide, pen1, by omega, fun r2 H2 r20 r29 k2 pen2 => ?_⟩
    refine ⟨_, _, rfl, sl_of (show 4 ≤ 1000000 by decide), fun o no => ?_⟩
    have z := same_new no (o := HO.lst [V.int 0, V.int (n - 1), V.int r1, V.int (if r2 < n - 1 then r2 else n - 1)])
    refine ⟨p, c, o, _, _, rfl, pen2.same z, by omega, upd_same, (show 0 < 4 by decide), (show 4 ≤ 100000 by decide), fun v H3 hv k3 pen3 => ?_⟩
    obtain ⟨x, rfl, hx0, hx⟩ := mem_ints (ns := [0, n - 1, r1, if r2 < n - 1 then r2 else n - 1]) (R := fun x => 0 ≤ x ∧ x < n) hv (fun x hx => by
      rcases List.mem_cons.mp hx with e | hx
      · omega
      rcases List.mem_cons.mp hx with e | hx
      · omega
      rcases List.mem_cons.mp hx with e | hx
      · omega
      rcases List.mem_cons.mp hx with e | hx
      · rw [e]
        split <;> omega
      exact absurd hx List.not_mem_nil)
    exact k x H3 hx0 hx (k1.trans (k2.trans ((Same.kp z).trans k3))) (pen3.mono (by omega))
theorem sc__law_touched : FnScope ["_law_pen_here", "_law_program", "_law_found", "_law_place", "_law_factor", "_law_offset", "_law_rounds", "_law_count", "_law_stride"] ["_law_pen_here", "_law_program"] (defScope s__law_touched) := ⟨rfl, rfl, rfl, by decide +kernel, rfl, by decide +kernel, by decide +kernel⟩
theorem ok__law_touched {f : Addr} {fd : FuncData} (F : Fun K "_law_touched" "_law_touched" s__law_touched f fd) (B : Blt mg) (C__law_pick : Cal P w K mg base 2 "_law_pick" sp__law_pick) (C__law_integer : Cal P w K mg base 2 "_law_integer" sp__law_integer) (C__law_terms : Cal P w K mg base (3 + 3) "_law_terms" (sp__law_terms K 3)) (C__law_below : Cal P w K mg base 3 "_law_below" sp__law_below) : FnOk P w K mg base CX0 7 f fd ["_law_pen_here", "_law_program"] (sp__law_touched K) := by
  refine F.ok sc__law_touched (fun vs H Q E h => ?_) (fun cdv A outer s H vs Q E hr h => ?_)
  · obtain ⟨p, c, v, b, m, rfl, _⟩ := h
    rfl
  · obtain ⟨p, c, v, b, m, rfl, hv, hd, hw, hn, hc, pen, hm, k⟩ := h
    have nd := sc__law_touched.nd
    have hu2 := hr.units
    refine ⟨_, (pss_cons (ps_par (i := 2) (j := 3) (by rfl) nd rfl rfl (by decide) rfl rfl (pa_cons (pe_c C__law_terms hr (by decide) (by rfl) (pa_cons (pv 1) pa_nil)) (pa_cons (pe_c C__law_integer hr (by decide) (by rfl) (pa_cons (pv 0) (pa_cons pe_int pa_nil))) pa_nil)) (by rfl))
    (pss_cons (ps_if (pt_cmpR (op_neD hu2) (pv 2) (pe_lst pa_nil) (nomark _))
      (pss_cons (ps_asg (pe_c C__law_pick hr (by decide) (by rfl) (pa_cons (pv 0) (pa_cons (pv 2) pa_nil))) (pg_tup rfl (pgs_cons (pg_name (i := 4) nd rfl (.inl rfl)) (pgs_cons (pg_name (i := 5) nd rfl (.inl rfl)) (pgs_cons (pg_name (i := 6) nd rfl (.inl rfl)) pgs_nil)))))
    (pss_one (ps_set (i := 3) nd rfl (.inl rfl) (pe_op op_add (pv 5) (pe_callB (cr_sum rfl) (by rfl) B.sum (by decide +kernel) (pa_cons (pe_lc (own := [("_law_count", 7), ("_law_stride", 8)]) (g := gTup K 2 (gCons (gName 7) (gCons (gName 8) gNil))) (by rfl) nd (pi_tup (pv 6)) (blkOk_by (N := ["_law_pen_here", "_law_program", "_law_found", "_law_place", "_law_factor", "_law_offset", "_law_rounds", "_law_count", "_law_stride"]) (sc := defScope s__law_touched) (own := [("_law_count", 7), ("_law_stride", 8)]) (by decide +kernel)) (fun _ _ _ _ _ => (pg_tup rfl (pgs_cons (pg_name (i := 7) nd rfl (.inl rfl) (.inr rfl)) (pgs_cons (pg_name (i := 8) nd rfl (.inl rfl) (.inr rfl)) pgs_nil)))) (fun _ _ _ _ _ => pts_nil) (fun _ _ _ _ _ => (pe_op op_mulW (pe_c C__law_below hr (by decide) (by rfl) (pa_cons (pv 0) (pa_cons (pv 7) pa_nil))) (pv 8)))) pa_nil))))))
      pss_nil)
    (pss_one (ps_ret (pe_op op_add (pv 3) (pe_c C__law_pick hr (by decide) (by rfl) (pa_cons (pv 0) (pa_cons (pe_lst (pa_cons pe_int (pa_cons pe_int (pa_cons pe_int (pa_cons pe_int (pa_cons (pe_un un_neg pe_int) pa_nil)))))) pa_nil)))))))), ?_⟩
    refine ⟨_, rfl, v, b, rfl, hv, hd, by decide, hw, hn, hc, fun D ys ts H1 s1 nD hD hT _ hok hlen => ?_⟩
    refine ⟨_, rfl, p, c, 5, _, rfl, by decide, by decide, pen.same s1, by omega, fun r H2 hr2 k2 pen2 => ?_⟩
    have hD2 := kp_lst (pen.same s1) k2 hD
    have hT2 := hT.tp ((pen.same s1).tp k2)
    have k02 : Kp p H H2 := (Same.kp s1).trans k2
    refine ⟨_, _, rfl, _, rfl, Nat.zero_le _, fun l nl => ?_⟩
    have z0 := same_new nl (o := HO.lst [])
    have fin : ∀ (z : Int) H3, Kp p H H3 → (∃ m3, m3 ≤ m + 9 ∧ PenAt H3 p c m3) → ∀ (y3 y4 y5 : Option V), True := fun _ _ _ _ _ _ _ => trivial
    refine ⟨_, _, .lst (SqL.of (z0 _ _ hD2)) ((hT2.tp (Same.tp z0)).dp), .lst (SqL.of upd_same) .nil, tmDs_shaped ts, rfl, _, rfl, ite2 (fun hne => ?_) fun _ => ?_⟩
    · have hts : 0 < ts.length := by
        cases ts with
        | nil => exact absurd hne (by decide)
        | cons t r => exact Nat.succ_pos _
      refine ⟨_, rfl, _, rfl, p, c, D, _, ys, rfl, pen2.same z0, by omega, z0 _ _ hD2, by rw [hT.len]; exact hts, by rw [hT.len]; omega, fun w0 H3 hw0 k3 pen3 => ?_⟩
      obtain ⟨i, hi⟩ := List.getElem?_of_mem hw0
      obtain ⟨t, hti, q, x, rfl, hq, hx⟩ := ((hT2.tp (Same.tp z0)).tp ((pen2.same z0).tp k3)).get hi
      have hto := hok t (List.mem_of_getElem? hti)
      refine ⟨q, _, rfl, hq, rfl, _, _, rfl, _, _, rfl, _, _, rfl, rfl, ?_⟩
      obtain ⟨a, xs, rfl, hxs, hP⟩ := hx
      have htl := hto.len
      refine ⟨_, rfl, ?_⟩
      dsimp only [tCB, tCons, tNil]
      refine lcPenT (K := K) (p := p) (c := c) (fun R rr => ⟨_, rfl, rr⟩) hxs hP (by omega) (m + 2) 3 (pen3.mono (by omega)) (fun _ _ => rfl) (fun u hu m2 H4 hm2 pen4 S hS => ?_) fun L H4 zs hL k4 pen4 => ?_
      · have hru := hto.rs u hu
        refine ⟨_, rfl, _, rfl, p, c, u.1, _, rfl, hru.1, hru.2.1, pen4, by omega, fun r5 H5 r50 r59 k5 pen5 => ?_⟩
        refine ⟨_, rfl, r5, u.2, rfl, rfl, wide_mul (a := 101) (b := 332) (Nat.lt_of_le_of_lt (show r5.natAbs ≤ 2 ^ 100 by omega) (by decide +kernel)) (Nat.lt_of_le_of_lt hru.2.2 (by decide +kernel)) (by decide) (by decide) (by decide), hS _ H5 k5 (pen5.mono (by omega))⟩
      · refine ⟨L, zs, rfl, SqL.of hL, t.pl, _, rfl, rfl, ?_⟩
        refine ⟨_, rfl, _, rfl, 1, rfl, sl_of (show 5 ≤ 1000000 by decide), fun o no => ?_⟩
        have z5 := same_new no (o := HO.lst [V.int 0, V.int 0, V.int 0, V.int 1, V.int (-1)])
        refine ⟨p, c, o, _, _, rfl, pen4.same z5, by omega, upd_same, (show 0 < 5 by decide), (show 5 ≤ 100000 by decide), fun v5 H5 hv5 k5 pen5 => ?_⟩
        obtain ⟨e5, rfl, _⟩ := mem_ints (ns := [0, 0, 0, 1, -1]) (R := fun _ => True) hv5 (fun _ _ => trivial)
        exact ⟨_, _, rfl, rfl, k _ H5 (k02.trans ((Same.kp z0).trans (k3.trans (k4.trans ((Same.kp z5).trans k5))))) (pen5.mono (by omega))⟩
    · refine ⟨_, rfl, _, rfl, 1, rfl, sl_of (show 5 ≤ 1000000 by decide), fun o no => ?_⟩
      have z5 := same_new no (o := HO.lst [V.int 0, V.int 0, V.int 0, V.int 1, V.int (-1)])
      refine ⟨p, c, o, _, _, rfl, (pen2.same z0).same z5, by omega, upd_same, (show 0 < 5 by decide), (show 5 ≤ 100000 by decide), fun v5 H5 hv5 k5 pen5 => ?_⟩
      obtain ⟨e5, rfl, _⟩ := mem_ints (ns := [0, 0, 0, 1, -1]) (R := fun _ => True) hv5 (fun _ _ => trivial)
      exact ⟨_, _, rfl, rfl, k _ H5 (k02.trans ((Same.kp z0).trans ((Same.kp z5).trans k5))) (pen5.mono (by omega))⟩
theorem sc_law : FnScope ["_law_script", "_law_pen_here", "_law_turn", "_law_prime_here", "_law_reach", "_law_rounds", "_law_former", "_law_later", "_law_mirror", "_law_factor", "_law_wide", "_law_ends", "_law_again", "_law_spot", "_law_shown", "_law_between"] ["_law_script"] (defScope s_law) := ⟨rfl, rfl, rfl, by decide +kernel, rfl, by decide +kernel, by decide +kernel⟩
theorem abs28 {z : Int} (h : ¬ decide ((if z < 0 then -z else z) > 10 ^ 28) = true) : z.natAbs ≤ 10 ^ 28 := by
  have h : ¬ ((if z < 0 then -z else z) > 10 ^ 28) := fun y => h (decide_eq_true y)
  split at h <;> omega
theorem pv_cat2 {H : Hp} {G : Addr} {xs ys : List V} {b d : List Ins} (hI : IVs K H xs b) (hJ : IVs K H ys d) (nG : H G = none) : PV K (upd H G (HO.lst (xs ++ ys))) (.ref G) (b ++ d) :=
  pv_list (SqL.of upd_same) (IVs.app (hI.same (same_new nG)) (hJ.same (same_new nG)))
theorem law_ok {f : Addr} {fd : FuncData} (F : Fun K "law" "law" s_law f fd) (B : Blt mg) (C__law_pen : Cal P w K mg base 1 "_law_pen" (sp__law_pen K)) (C__law_draw : Cal P w K mg base 1 "_law_draw" sp__law_draw) (C__law_pick : Cal P w K mg base 2 "_law_pick" sp__law_pick) (C__law_prime : Cal P w K mg base 3 "_law_prime" sp__law_prime) (C__law_short_program : Cal P w K mg base 5 "_law_short_program" (sp__law_short_programC K))
    (C__law_touched : Cal P w K mg base 7 "_law_touched" (sp__law_touched K)) (C__law_stepped : Cal P w K mg base (3 + 0) "_law_stepped" (sp__law_stepped K 3)) (C__law_backward : Cal P w K mg base (3 + 0) "_law_backward" (sp__law_backward K 3)) (C_shift_of : Cal P w K mg base (3 + 0) "shift_of" (sp_shift_of K 3)) (C_value_at : Cal P w K mg base 7 "value_at" (sp_value_at K)) : Kept P w K mg base f fd ["_law_script"] (sp_law K) := by
  refine kept_of (k := 7) F sc_law (fun vs H Q E h => ?_) ⟨rfl, by decide, by decide⟩ (fun cdv s H vs Q E hr h => ?_)
  · obtain ⟨a, ns, rfl, _⟩ := h
    rfl
  · obtain ⟨a, ns, rfl, hS, hlen, k⟩ := h
    have nd := sc_law.nd
    refine ⟨_, (pss_cons (ps_set (i := 1) nd rfl (.inl rfl) (pe_c C__law_pen hr (by decide) (by rfl) (pa_cons (pv 0) pa_nil)))
    (pss_cons (ps_for PassesOwn.never rfl (pi_range1 (by rfl) B.range (pa_cons pe_int pa_nil)) (pg_name (i := 2) nd rfl (.inl rfl))
      (pss_cons (ps_par (i := 3) (j := 4) (by rfl) nd rfl rfl (by decide) rfl rfl (pa_cons (pe_c C__law_prime hr (by decide) (by rfl) (pa_cons (pv 1) pa_nil)) (pa_cons (pe_c C__law_pick hr (by decide) (by rfl) (pa_cons (pv 1) (pa_cons (pe_lst (pa_cons pe_int (pa_cons pe_int (pa_cons (pe_op op_pow pe_int pe_int) (pa_cons (pe_op op_pow pe_int pe_int) pa_nil))))) pa_nil))) pa_nil)) (by rfl))
    (pss_cons (ps_set (i := 5) nd rfl (.inl rfl) (pe_c C__law_pick hr (by decide) (by rfl) (pa_cons (pv 1) (pa_cons (pe_lst (pa_cons pe_int (pa_cons pe_int (pa_cons (pe_op op_pow pe_int pe_int) (pa_cons (pe_op op_pow pe_int pe_int) pa_nil))))) pa_nil))))
    (pss_cons (ps_par (i := 6) (j := 7) (by rfl) nd rfl rfl (by decide) rfl rfl (pa_cons (pe_c C__law_short_program hr (by decide) (by rfl) (pa_cons (pv 1) (pa_cons pe_int (pa_cons (pv 4) (pa_cons (pv 5) pa_nil))))) (pa_cons (pe_c C__law_short_program hr (by decide) (by rfl) (pa_cons (pv 1) (pa_cons pe_int (pa_cons (pv 4) (pa_cons (pv 5) pa_nil))))) pa_nil)) (by rfl))
    (pss_cons (ps_par (i := 8) (j := 9) (by rfl) nd rfl rfl (by decide) rfl rfl (pa_cons (pe_c C__law_stepped hr (by decide) (by rfl) (pa_cons (pv 6) (pa_cons (pe_un un_neg pe_int) pa_nil))) (pa_cons (pe_op op_add pe_int (pe_c C__law_draw hr (by decide) (by rfl) (pa_cons (pv 1) (pa_cons pe_int pa_nil)))) pa_nil)) (by rfl))
    (pss_cons (ps_par (i := 10) (j := 11) (by rfl) nd rfl rfl (by decide) rfl rfl (pa_cons (pe_c C__law_stepped hr (by decide) (by rfl) (pa_cons (pv 6) (pa_cons (pv 9) pa_nil))) (pa_cons (pe_c C_shift_of hr (by decide) (by rfl) (pa_cons (pv 6) pa_nil)) pa_nil)) (by rfl))
    (pss_one (ps_for PassesOwn.never rfl (pi_range1 (by rfl) B.range (pa_cons pe_int pa_nil)) (pg_name (i := 12) nd rfl (.inl rfl))
      (pss_cons (ps_set (i := 13) nd rfl (.inl rfl) (pe_c C__law_touched hr (by decide) (by rfl) (pa_cons (pv 1) (pa_cons (pe_ifExp (pt_cmpR op_lt (pv 12) pe_int (nomark _)) (pv 6) (pe_op op_cat (pv 6) (pv 7))) pa_nil))))
    (pss_cons (ps_if (PW.pt (pw_or (pt_cmpR op_gt (pe_callB call_abs (by rfl) B.abs (by decide +kernel) (pa_cons (pv 13) pa_nil)) (pe_op op_pow pe_int pe_int) (nomark _)) (pw_or1 (pt_cmpR op_gt (pe_callB call_abs (by rfl) B.abs (by decide +kernel) (pa_cons (pe_op op_sub (pv 13) (pv 11)) pa_nil)) (pe_op op_pow pe_int pe_int) (nomark _)))))
      (pss_one ps_continue)
      pss_nil)
    (pss_cons (ps_set (i := 14) nd rfl (.inl rfl) (pe_c C_value_at hr (by decide) (by rfl) (pa_cons (pv 3) (pa_cons (pv 6) (pa_cons (pv 13) pa_nil)))))
    (pss_cons (ps_if (pt_cmpR op_ne (pe_c C_value_at hr (by decide) (by rfl) (pa_cons (pv 3) (pa_cons (pe_op op_cat (pv 6) (pv 7)) (pa_cons (pv 13) pa_nil)))) (pe_op op_mod (pe_op op_add (pv 14) (pe_c C_value_at hr (by decide) (by rfl) (pa_cons (pv 3) (pa_cons (pv 7) (pa_cons (pe_op op_sub (pv 13) (pv 11)) pa_nil))))) (pv 3)) (nomark _))
      (pss_one (ps_ret pe_bl))
      pss_nil)
    (pss_cons (ps_if (PW.pt (pw_or (pt_cmpR op_ne (pe_c C_value_at hr (by decide) (by rfl) (pa_cons (pv 3) (pa_cons (pv 8) (pa_cons (pe_op op_sub pe_int (pv 13)) pa_nil)))) (pv 14) (nomark _)) (pw_or1 (pt_cmpR op_ne (pe_c C_value_at hr (by decide) (by rfl) (pa_cons (pv 3) (pa_cons (pv 10) (pa_cons (pe_op op_mulW (pv 9) (pv 13)) pa_nil)))) (pv 14) (nomark _)))))
      (pss_one (ps_ret pe_bl))
      pss_nil)
    (pss_cons (ps_set (i := 15) nd rfl (.inl rfl) (pe_op op_add (pe_op op_mulW (pv 9) (pv 13)) (pe_c C__law_draw hr (by decide) (by rfl) (pa_cons (pv 1) (pa_cons (pv 9) pa_nil)))))
    (pss_cons (ps_if (PW.pt (pw_and (pt_cmpR op_ne (pe_op op_mod (pv 15) (pv 9)) pe_int (nomark _)) (pw_and1 (pt_cmpR op_ne (pe_c C_value_at hr (by decide) (by rfl) (pa_cons (pv 3) (pa_cons (pv 10) (pa_cons (pv 15) pa_nil)))) pe_int (nomark _)))))
      (pss_one (ps_ret pe_bl))
      pss_nil)
    (pss_one (ps_if (pt_cmpR op_ne (pe_c C_value_at hr (by decide) (by rfl) (pa_cons (pv 3) (pa_cons (pe_op op_cat (pv 6) (pe_c C__law_backward hr (by decide) (by rfl) (pa_cons (pv 6) pa_nil))) (pa_cons (pv 13) pa_nil)))) pe_int (nomark _))
      (pss_one (ps_ret pe_bl))
      pss_nil)))))))))))))))))
    (pss_one (ps_ret pe_bl)))), ?_⟩
    refine ⟨_, rfl, a, ns, rfl, hS, fun p c H1 np s1 pen1 => ?_⟩
    refine ⟨6, rfl, by decide, by decide, for_range (lo := 0) (n := 6) (fun i σ H2 => ∃ (y2 y3 y4 y5 y6 y7 y8 y9 y10 y11 y12 y13 y14 y15 : Option V), σ = [some (.ref a), some (.ref p), y2, y3, y4, y5, y6, y7, y8, y9, y10, y11, y12, y13, y14, y15] ∧ PenAt H2 p c (1000 * i)) ⟨none, none, none, none, none, none, none, none, none, none, none, none, none, none, rfl, pen1⟩ ?_ ?_⟩
    · rintro i σ H2 hi ⟨y2, y3, y4, y5, y6, y7, y8, y9, y10, y11, y12, y13, y14, y15, rfl, pen2⟩
      refine ⟨_, rfl, p, c, _, rfl, pen2, by omega, fun q H3 hq k3 pen3 => ?_⟩
      obtain ⟨hqa, hqb⟩ := prime_rng q hq
      have hq0 : 0 < q := by omega
      refine ⟨_, rfl, 10, 6, rfl, rfl, ⟨by decide, by decide, by decide⟩, 10, 12, rfl, rfl, ⟨by decide, by decide, by decide⟩, sl_of (show 4 ≤ 1000000 by decide), fun o no => ?_⟩
      have z1 := same_new no (o := HO.lst [V.int 1, V.int 2, V.int (10 ^ 6), V.int (10 ^ 12)])
      refine ⟨p, c, o, _, _, rfl, pen3.same z1, by omega, upd_same, (show 0 < 4 by decide), (show 4 ≤ 100000 by decide), fun rv H4 hrv k4 pen4 => ?_⟩
      obtain ⟨reach, rfl, hre, hre2⟩ := mem_ints (ns := [1, 2, 10 ^ 6, 10 ^ 12]) (R := fun x => 0 ≤ x ∧ x ≤ 10 ^ 12) hrv (by decide +kernel)
      refine ⟨_, _, rfl, ?_⟩
      refine ⟨_, rfl, 10, 6, rfl, rfl, ⟨by decide, by decide, by decide⟩, 10, 12, rfl, rfl, ⟨by decide, by decide, by decide⟩, sl_of (show 4 ≤ 1000000 by decide), fun o2 no2 => ?_⟩
      have z2 := same_new no2 (o := HO.lst [V.int 3, V.int 9, V.int (10 ^ 6), V.int (10 ^ 12)])
      refine ⟨p, c, o2, _, _, rfl, pen4.same z2, by omega, upd_same, (show 0 < 4 by decide), (show 4 ≤ 100000 by decide), fun mv H5 hmv k5 pen5 => ?_⟩
      obtain ⟨most, rfl, hmo, hmo2⟩ := mem_ints (ns := [3, 9, 10 ^ 6, 10 ^ 12]) (R := fun x => 1 ≤ x ∧ x ≤ 10 ^ 12) hmv (by decide +kernel)
      refine ⟨_, rfl, _, rfl, _, rfl, p, c, 3, reach, most, _, rfl, by decide, by decide, hre, by omega, by omega, by omega, pen5, by omega, fun F0 xs b H6 k6 pen6 hF hI okb cpb => ?_⟩
      have okb : PrR b 2 17 most := okb
      refine ⟨_, rfl, _, rfl, _, rfl, p, c, 3, reach, most, _, rfl, by decide, by decide, hre, by omega, by omega, by omega, pen6, by omega, fun G0 ys d H7 k7 pen7 hG hJ okd _ => ?_⟩
      have okd : PrR d 2 17 most := okd
      refine ⟨_, _, rfl, ?_⟩
      have hF7 := kp_lst pen6 k7 hF
      have hI7 := hI.kp pen6 k7
      have hdb : dpP b < 3 := by have := okb.ok.dp; omega
      have hdd : dpP d < 3 := by have := okd.ok.dp; omega
      have hcb : cnP b ≤ 17 := okb.ok.cn
      have hcd : cnP d ≤ 17 := okd.ok.cn
      have hxl : xs.length ≤ 17 := by rw [hI.len]; exact Nat.le_trans (len_cnP b) hcb
      have hyl : ys.length ≤ 17 := by rw [hJ.len]; exact Nat.le_trans (len_cnP d) hcd
      have hlb : b.length ≤ 1024 := Nat.le_trans (len_cnP b) (by omega)
      have hM : (reach.natAbs + 3) * 16 ≤ 2 ^ 100 := Nat.le_trans (show (reach.natAbs + 3) * 16 ≤ 10 ^ 14 by omega) (by decide +kernel)
      refine ⟨_, rfl, 1, rfl, .ref F0, -1, b, rfl, pv_list (SqL.of hF7) hI7, hdb, by decide, by omega, okb.ok.w, by decide, fun D1 H8 s8 hu1 => ?_⟩
      have pen8 := pen7.same s8
      refine ⟨_, rfl, p, c, 9, _, rfl, by decide, by decide, pen8, by omega, fun r H9 hr0 hr9 k9 pen9 => ?_⟩
      refine ⟨_, _, rfl, rfl, _, _, rfl, ?_⟩
      have hF9 := kp_lst pen8 k9 (s8 _ _ hF7)
      have hI9 := (hI7.same s8).kp pen8 k9
      have hfa : (1 + r).natAbs ≤ 16 := by omega
      refine ⟨_, rfl, _, rfl, .ref F0, 1 + r, b, rfl, pv_list (SqL.of hF9) hI9, hdb, by decide, by omega, okb.ok.w, hfa, fun D2 H10 s10 hu2 => ?_⟩
      have hF10 := s10 _ _ hF9
      have hI10 := hI9.same s10
      refine ⟨_, rfl, .ref F0, b, rfl, pv_list (SqL.of hF10) hI10, hdb, by decide, okb.ok.w, hlb, ?_⟩
      refine ⟨_, _, rfl, ?_⟩
      have pvM10 : PV K H10 (.ref D1) (stP (-1) b) := ((hu1.same (er_sub _ _)).kp pen8 k9).same s10
      have pvW10 : PV K H10 (.ref D2) (stP (1 + r) b) := hu2.same (er_sub _ _)
      have pen10 := pen9.same s10
      have hG10 := s10 _ _ (kp_lst pen8 k9 (s8 _ _ hG))
      have hJ10 := ((hJ.same s8).kp pen8 k9).same s10
      have okM : dpP (stP (-1) b) < 3 ∧ WP (stP (-1) b) ∧ NP (stP (-1) b) ∧ cnP (stP (-1) b) ≤ 1024 := ⟨by rw [st_dp]; exact hdb, st_w (by decide) hM b cpb okb.ok.w, st_np _ b okb.nn, by rw [st_cn]; omega⟩
      have okW : dpP (stP (1 + r) b) < 3 ∧ WP (stP (1 + r) b) ∧ NP (stP (1 + r) b) ∧ cnP (stP (1 + r) b) ≤ 1024 := ⟨by rw [st_dp]; exact hdb, st_w hfa hM b cpb okb.ok.w, st_np _ b okb.nn, by rw [st_cn]; omega⟩
      have okC : dpP (b ++ d) < 3 ∧ WP (b ++ d) ∧ NP (b ++ d) ∧ cnP (b ++ d) ≤ 1024 := ⟨by rw [dpP_app]; omega, WP_app _ _ okb.ok.w okd.ok.w, NP_app _ _ okb.nn okd.nn, by rw [cnP_app]; omega⟩
      have okK : dpP (b ++ bkP b) < 3 ∧ WP (b ++ bkP b) ∧ NP (b ++ bkP b) ∧ cnP (b ++ bkP b) ≤ 1024 := ⟨by rw [dpP_app, bk_dp]; omega, WP_app _ _ okb.ok.w (bk_w b okb.ok.w), NP_app _ _ okb.nn (bk_np b okb.nn), by rw [cnP_app, bk_cn]; omega⟩
      refine ⟨5, rfl, by decide, by decide, for_range (lo := 0) (n := 5) (fun j σ H2 => ∃ (y12 y13 y14 y15 : Option V), σ = [some (.ref a), some (.ref p), some (.int (0 + (i : Int))), some (.int q), some (.int reach), some (.int most), some (.ref F0), some (.ref G0), some (.ref D1), some (.int (1 + r)), some (.ref D2), some (.int (shP b)), y12, y13, y14, y15] ∧ Kp p H10 H2 ∧ PenAt H2 p c (1000 * i + 810 + 20 * j)) ⟨_, _, _, _, rfl, Kp.refl p H10, pen10.mono (by omega)⟩ ?_ ?_⟩
      · rintro j σ H20 hj ⟨y12, y13, y14, y15, rfl, k20, pen20⟩
        have hF20 := kp_lst pen10 k20 hF10
        have hI20 := hI10.kp pen10 k20
        have hG20 := kp_lst pen10 k20 hG10
        have hJ20 := hJ10.kp pen10 k20
        refine ⟨_, rfl, _, rfl, _, _, rfl, rfl, _, rfl, ite2 (fun _ => ?_) fun _ => ?_⟩
        · refine ⟨_, rfl, p, c, .ref F0, b, _, rfl, pv_list (SqL.of hF20) hI20, hdb, okb.ok.w, okb.nn, by omega, pen20, by omega, fun z H21 k21 pen21 => ?_⟩
          have k221 := k20.trans k21
          refine ⟨_, rfl, z, rfl, 10, 28, rfl, rfl, ⟨by decide, by decide, by decide⟩, _, _, rfl, rfl, _, rfl, ite2 (fun _ => ⟨_, _, _, _, rfl, k221, pen21.mono (by omega)⟩) fun h1 => ?_⟩
          refine ⟨_, rfl, _, rfl, z, shP b, rfl, rfl, _, rfl, 10, 28, rfl, rfl, ⟨by decide, by decide, by decide⟩, _, _, rfl, rfl, _, rfl, ite2 (fun _ => ⟨_, _, _, _, rfl, k221, pen21.mono (by omega)⟩) fun h2 => ?_⟩
          have hz := abs28 h1
          have hz2 := abs28 h2
          have bd : ∀ x : Int, x.natAbs ≤ 10 ^ 30 → x.natAbs ≤ 2 ^ 340 := fun x h => Nat.le_trans h (by decide +kernel)
          have hF21 := kp_lst pen10 k221 hF10
          have hI21 := hI10.kp pen10 k221
          have hG21 := kp_lst pen10 k221 hG10
          have hJ21 := hJ10.kp pen10 k221
          have pvM := pvM10.kp pen10 k221
          have pvW := pvW10.kp pen10 k221
          refine ⟨_, rfl, _, rfl, _, rfl, q, .ref F0, z, b, rfl, hq0, pv_list (SqL.of hF21) hI21, hdb, okb.ok.w, okb.nn, by omega, bd _ (by omega), fun H23 s23 => ?_⟩
          refine ⟨_, rfl, _, rfl, _, rfl, F0, G0, _, _, rfl, rfl, s23 _ _ hF21, s23 _ _ hG21, sl_of (show xs.length + ys.length ≤ 1000000 by omega), fun c1 nc1 => ?_⟩
          have x1 := same_new nc1 (o := HO.lst (xs ++ ys))
          refine ⟨_, rfl, q, _, z, b ++ d, rfl, hq0, pv_cat2 (hI21.same s23) (hJ21.same s23) nc1, okC.1, okC.2.1, okC.2.2.1, okC.2.2.2, bd _ (by omega), fun H24 s24 => ?_⟩
          have S24 := s23.trans (x1.trans s24)
          refine ⟨_, rfl, _, rfl, _, rfl, _, rfl, _, rfl, z, shP b, rfl, rfl, q, .ref G0, _, d, rfl, hq0, pv_list (SqL.of (S24 _ _ hG21)) (hJ21.same S24), hdd, okd.ok.w, okd.nn, by omega, bd _ (by omega), fun H25 s25 => ?_⟩
          refine ⟨_, _, rfl, rfl, _, rfl, _, q, rfl, rfl, hq0, rfl, _, rfl, iteNS (congrArg V.int (by rw [seP_app, Int.add_emod])) ?_⟩
          have S25 := S24.trans s25
          refine ⟨_, rfl, _, rfl, _, rfl, 0, z, rfl, rfl, q, .ref D1, _, stP (-1) b, rfl, hq0, pvM.same S25, okM.1, okM.2.1, okM.2.2.1, okM.2.2.2, bd _ (by omega), fun H26 s26 => ?_⟩
          refine ⟨_, rfl, rfl, _, rfl, iteNS (congrArg V.int (by rw [show (0 : Int) - z = -1 * z by omega, seP_st (by decide)])) ?_⟩
          have S26 := S25.trans s26
          have hmz : ((1 + r) * z).natAbs ≤ 16 * 10 ^ 28 := by
            rw [Int.natAbs_mul]
            exact Nat.mul_le_mul hfa hz
          have wm := wide_mul (a := 5) (b := 100) (i := 1 + r) (j := z) (Nat.lt_of_le_of_lt hfa (by decide)) (Nat.lt_of_le_of_lt hz (by decide +kernel)) (by decide) (by decide) (by decide)
          refine ⟨_, rfl, _, rfl, _, rfl, _, rfl, 1 + r, z, rfl, rfl, wm, q, .ref D2, _, stP (1 + r) b, rfl, hq0, pvW.same S26, okW.1, okW.2.1, okW.2.2.1, okW.2.2.2, bd _ (by omega), fun H27 s27 => ?_⟩
          refine ⟨_, rfl, rfl, _, rfl, iteNS (congrArg V.int (by rw [seP_st (by omega)])) ?_⟩
          have S27 := S26.trans s27
          have pen27 := pen21.same S27
          refine ⟨_, rfl, _, rfl, 1 + r, z, rfl, rfl, wm, _, rfl, _, rfl, p, c, 1 + r, _, rfl, by omega, Nat.lt_of_le_of_lt hfa (by decide +kernel), pen27, by omega, fun r2 H28 r20 r29 k28 pen28 => ?_⟩
          refine ⟨_, _, rfl, rfl, ?_⟩
          have k2128 : Kp p H10 H28 := k221.trans ((Same.kp S27).trans k28)
          refine ⟨_, rfl, _, rfl, _, _, rfl, rfl, by omega, rfl, _, rfl, ite2 (fun hne => ?_) fun _ => ?_⟩
          · have hnd : ¬ (1 + r) ∣ (1 + r) * z + r2 := fun dv => by
              have hne : (!decide (V.int (((1 + r) * z + r2) % (1 + r)) = V.int 0)) = true := hne
              rw [Int.emod_eq_zero_of_dvd dv] at hne
              exact absurd hne (by decide)
            refine ⟨_, rfl, _, rfl, _, rfl, q, .ref D2, _, stP (1 + r) b, rfl, hq0, pvW10.kp pen10 k2128, okW.1, okW.2.1, okW.2.2.1, okW.2.2.2, bd _ (by omega), fun H29 s29 => ?_⟩
            refine ⟨rfl, _, rfl, iteNS (congrArg V.int (by rw [seP_off b _ hnd, Int.zero_emod])) ?_⟩
            have k29 := k2128.trans (Same.kp s29)
            have pen29 := pen28.same s29
            have hF29 := kp_lst pen10 k29 hF10
            have hI29 := hI10.kp pen10 k29
            refine ⟨_, rfl, _, rfl, _, rfl, .ref F0, b, rfl, pv_list (SqL.of hF29) hI29, hdb, by decide, by omega, fun D3 ws H30 s30 hD3 hW3 => ?_⟩
            have hwl : ws.length ≤ 17 := by rw [hW3.len, bk_len]; exact Nat.le_trans (len_cnP b) hcb
            refine ⟨F0, D3, _, _, rfl, rfl, s30 _ _ hF29, hD3, sl_of (show xs.length + ws.length ≤ 1000000 by omega), fun c3 nc3 => ?_⟩
            have x3 := same_new nc3 (o := HO.lst (xs ++ ws))
            refine ⟨_, rfl, q, _, z, b ++ bkP b, rfl, hq0, pv_cat2 (hI29.same s30) hW3 nc3, okK.1, okK.2.1, okK.2.2.1, okK.2.2.2, bd _ (by omega), fun H31 s31 => ?_⟩
            refine ⟨rfl, _, rfl, iteNS (congrArg V.int (by rw [seP_app, seP_bk b z okb.nn, Int.add_right_neg, Int.zero_emod])) ?_⟩
            have S31 := s30.trans (x3.trans s31)
            exact ⟨_, _, _, _, rfl, k29.trans (Same.kp S31), (pen29.same S31).mono (by omega)⟩
          · have k29 := k2128
            have pen29 := pen28
            have hF29 := kp_lst pen10 k29 hF10
            have hI29 := hI10.kp pen10 k29
            refine ⟨_, rfl, _, rfl, _, rfl, .ref F0, b, rfl, pv_list (SqL.of hF29) hI29, hdb, by decide, by omega, fun D3 ws H30 s30 hD3 hW3 => ?_⟩
            have hwl : ws.length ≤ 17 := by rw [hW3.len, bk_len]; exact Nat.le_trans (len_cnP b) hcb
            refine ⟨F0, D3, _, _, rfl, rfl, s30 _ _ hF29, hD3, sl_of (show xs.length + ws.length ≤ 1000000 by omega), fun c3 nc3 => ?_⟩
            have x3 := same_new nc3 (o := HO.lst (xs ++ ws))
            refine ⟨_, rfl, q, _, z, b ++ bkP b, rfl, hq0, pv_cat2 (hI29.same s30) hW3 nc3, okK.1, okK.2.1, okK.2.2.1, okK.2.2.2, bd _ (by omega), fun H31 s31 => ?_⟩
            refine ⟨rfl, _, rfl, iteNS (congrArg V.int (by rw [seP_app, seP_bk b z okb.nn, Int.add_right_neg, Int.zero_emod])) ?_⟩
            have S31 := s30.trans (x3.trans s31)
            exact ⟨_, _, _, _, rfl, k29.trans (Same.kp S31), (pen29.same S31).mono (by omega)⟩
        · refine ⟨_, rfl, _, rfl, F0, G0, _, _, rfl, rfl, hF20, hG20, sl_of (show xs.length + ys.length ≤ 1000000 by omega), fun c0 nc0 => ?_⟩
          have x0 := same_new nc0 (o := HO.lst (xs ++ ys))
          refine ⟨p, c, .ref c0, b ++ d, _, rfl, pv_cat2 hI20 hJ20 nc0, okC.1, okC.2.1, okC.2.2.1, okC.2.2.2, pen20.same x0, by omega, fun z H21 k21' pen21 => ?_⟩
          have k21 : Kp p H20 H21 := (Same.kp x0).trans k21'
          have k221 := k20.trans k21
          refine ⟨_, rfl, z, rfl, 10, 28, rfl, rfl, ⟨by decide, by decide, by decide⟩, _, _, rfl, rfl, _, rfl, ite2 (fun _ => ⟨_, _, _, _, rfl, k221, pen21.mono (by omega)⟩) fun h1 => ?_⟩
          refine ⟨_, rfl, _, rfl, z, shP b, rfl, rfl, _, rfl, 10, 28, rfl, rfl, ⟨by decide, by decide, by decide⟩, _, _, rfl, rfl, _, rfl, ite2 (fun _ => ⟨_, _, _, _, rfl, k221, pen21.mono (by omega)⟩) fun h2 => ?_⟩
          have hz := abs28 h1
          have hz2 := abs28 h2
          have bd : ∀ x : Int, x.natAbs ≤ 10 ^ 30 → x.natAbs ≤ 2 ^ 340 := fun x h => Nat.le_trans h (by decide +kernel)
          have hF21 := kp_lst pen10 k221 hF10
          have hI21 := hI10.kp pen10 k221
          have hG21 := kp_lst pen10 k221 hG10
          have hJ21 := hJ10.kp pen10 k221
          have pvM := pvM10.kp pen10 k221
          have pvW := pvW10.kp pen10 k221
          refine ⟨_, rfl, _, rfl, _, rfl, q, .ref F0, z, b, rfl, hq0, pv_list (SqL.of hF21) hI21, hdb, okb.ok.w, okb.nn, by omega, bd _ (by omega), fun H23 s23 => ?_⟩
          refine ⟨_, rfl, _, rfl, _, rfl, F0, G0, _, _, rfl, rfl, s23 _ _ hF21, s23 _ _ hG21, sl_of (show xs.length + ys.length ≤ 1000000 by omega), fun c1 nc1 => ?_⟩
          have x1 := same_new nc1 (o := HO.lst (xs ++ ys))
          refine ⟨_, rfl, q, _, z, b ++ d, rfl, hq0, pv_cat2 (hI21.same s23) (hJ21.same s23) nc1, okC.1, okC.2.1, okC.2.2.1, okC.2.2.2, bd _ (by omega), fun H24 s24 => ?_⟩
          have S24 := s23.trans (x1.trans s24)
          refine ⟨_, rfl, _, rfl, _, rfl, _, rfl, _, rfl, z, shP b, rfl, rfl, q, .ref G0, _, d, rfl, hq0, pv_list (SqL.of (S24 _ _ hG21)) (hJ21.same S24), hdd, okd.ok.w, okd.nn, by omega, bd _ (by omega), fun H25 s25 => ?_⟩
          refine ⟨_, _, rfl, rfl, _, rfl, _, q, rfl, rfl, hq0, rfl, _, rfl, iteNS (congrArg V.int (by rw [seP_app, Int.add_emod])) ?_⟩
          have S25 := S24.trans s25
          refine ⟨_, rfl, _, rfl, _, rfl, 0, z, rfl, rfl, q, .ref D1, _, stP (-1) b, rfl, hq0, pvM.same S25, okM.1, okM.2.1, okM.2.2.1, okM.2.2.2, bd _ (by omega), fun H26 s26 => ?_⟩
          refine ⟨_, rfl, rfl, _, rfl, iteNS (congrArg V.int (by rw [show (0 : Int) - z = -1 * z by omega, seP_st (by decide)])) ?_⟩
          have S26 := S25.trans s26
          have hmz : ((1 + r) * z).natAbs ≤ 16 * 10 ^ 28 := by
            rw [Int.natAbs_mul]
            exact Nat.mul_le_mul hfa hz
          have wm := wide_mul (a := 5) (b := 100) (i := 1 + r) (j := z) (Nat.lt_of_le_of_lt hfa (by decide)) (Nat.lt_of_le_of_lt hz (by decide +kernel)) (by decide) (by decide) (by decide)
          refine ⟨_, rfl, _, rfl, _, rfl, _, rfl, 1 + r, z, rfl, rfl, wm, q, .ref D2, _, stP (1 + r) b, rfl, hq0, pvW.same S26, okW.1, okW.2.1, okW.2.2.1, okW.2.2.2, bd _ (by omega), fun H27 s27 => ?_⟩
          refine ⟨_, rfl, rfl, _, rfl, iteNS (congrArg V.int (by rw [seP_st (by omega)])) ?_⟩
          have S27 := S26.trans s27
          have pen27 := pen21.same S27
          refine ⟨_, rfl, _, rfl, 1 + r, z, rfl, rfl, wm, _, rfl, _, rfl, p, c, 1 + r, _, rfl, by omega, Nat.lt_of_le_of_lt hfa (by decide +kernel), pen27, by omega, fun r2 H28 r20 r29 k28 pen28 => ?_⟩
          refine ⟨_, _, rfl, rfl, ?_⟩
          have k2128 : Kp p H10 H28 := k221.trans ((Same.kp S27).trans k28)
          refine ⟨_, rfl, _, rfl, _, _, rfl, rfl, by omega, rfl, _, rfl, ite2 (fun hne => ?_) fun _ => ?_⟩
          · have hnd : ¬ (1 + r) ∣ (1 + r) * z + r2 := fun dv => by
              have hne : (!decide (V.int (((1 + r) * z + r2) % (1 + r)) = V.int 0)) = true := hne
              rw [Int.emod_eq_zero_of_dvd dv] at hne
              exact absurd hne (by decide)
            refine ⟨_, rfl, _, rfl, _, rfl, q, .ref D2, _, stP (1 + r) b, rfl, hq0, pvW10.kp pen10 k2128, okW.1, okW.2.1, okW.2.2.1, okW.2.2.2, bd _ (by omega), fun H29 s29 => ?_⟩
            refine ⟨rfl, _, rfl, iteNS (congrArg V.int (by rw [seP_off b _ hnd, Int.zero_emod])) ?_⟩
            have k29 := k2128.trans (Same.kp s29)
            have pen29 := pen28.same s29
            have hF29 := kp_lst pen10 k29 hF10
            have hI29 := hI10.kp pen10 k29
            refine ⟨_, rfl, _, rfl, _, rfl, .ref F0, b, rfl, pv_list (SqL.of hF29) hI29, hdb, by decide, by omega, fun D3 ws H30 s30 hD3 hW3 => ?_⟩
            have hwl : ws.length ≤ 17 := by rw [hW3.len, bk_len]; exact Nat.le_trans (len_cnP b) hcb
            refine ⟨F0, D3, _, _, rfl, rfl, s30 _ _ hF29, hD3, sl_of (show xs.length + ws.length ≤ 1000000 by omega), fun c3 nc3 => ?_⟩
            have x3 := same_new nc3 (o := HO.lst (xs ++ ws))
            refine ⟨_, rfl, q, _, z, b ++ bkP b, rfl, hq0, pv_cat2 (hI29.same s30) hW3 nc3, okK.1, okK.2.1, okK.2.2.1, okK.2.2.2, bd _ (by omega), fun H31 s31 => ?_⟩
            refine ⟨rfl, _, rfl, iteNS (congrArg V.int (by rw [seP_app, seP_bk b z okb.nn, Int.add_right_neg, Int.zero_emod])) ?_⟩
            have S31 := s30.trans (x3.trans s31)
            exact ⟨_, _, _, _, rfl, k29.trans (Same.kp S31), (pen29.same S31).mono (by omega)⟩
          · have k29 := k2128
            have pen29 := pen28
            have hF29 := kp_lst pen10 k29 hF10
            have hI29 := hI10.kp pen10 k29
            refine ⟨_, rfl, _, rfl, _, rfl, .ref F0, b, rfl, pv_list (SqL.of hF29) hI29, hdb, by decide, by omega, fun D3 ws H30 s30 hD3 hW3 => ?_⟩
            have hwl : ws.length ≤ 17 := by rw [hW3.len, bk_len]; exact Nat.le_trans (len_cnP b) hcb
            refine ⟨F0, D3, _, _, rfl, rfl, s30 _ _ hF29, hD3, sl_of (show xs.length + ws.length ≤ 1000000 by omega), fun c3 nc3 => ?_⟩
            have x3 := same_new nc3 (o := HO.lst (xs ++ ws))
            refine ⟨_, rfl, q, _, z, b ++ bkP b, rfl, hq0, pv_cat2 (hI29.same s30) hW3 nc3, okK.1, okK.2.1, okK.2.2.1, okK.2.2.2, bd _ (by omega), fun H31 s31 => ?_⟩
            refine ⟨rfl, _, rfl, iteNS (congrArg V.int (by rw [seP_app, seP_bk b z okb.nn, Int.add_right_neg, Int.zero_emod])) ?_⟩
            have S31 := s30.trans (x3.trans s31)
            exact ⟨_, _, _, _, rfl, k29.trans (Same.kp S31), (pen29.same S31).mono (by omega)⟩
      · rintro σ H20 ⟨y12, y13, y14, y15, rfl, k20, pen20⟩
        exact ⟨_, _, _, _, _, _, _, _, _, _, _, _, _, _, rfl, pen20.mono (by omega)⟩
    · rintro σ H2 ⟨y2, y3, y4, y5, y6, y7, y8, y9, y10, y11, y12, y13, y14, y15, rfl, pen2⟩
      exact k H2
end
theorem all_mk {l : PySem.W.OpenLaw} {w : World} {K : PySem.W.Frag} {mg : Str → Option Value} {fa : Addr} (hfa : mg "law" = some (.ref fa)) (B : Blt mg)
    (D_common_divisor : Df K mg "common_divisor" s_common_divisor)
    (D_shift_of : Df K mg "shift_of" s_shift_of)
    (D_repeated : Df K mg "repeated" s_repeated)
    (D_terms_of : Df K mg "terms_of" s_terms_of)
    (D_pairs_at : Df K mg "pairs_at" s_pairs_at)
    (D_ways_at : Df K mg "ways_at" s_ways_at)
    (D_value_of : Df K mg "value_of" s_value_of)
    (D_value_at : Df K mg "value_at" s_value_at)
    (D__law_pen : Df K mg "_law_pen" s__law_pen)
    (D__law_draw : Df K mg "_law_draw" s__law_draw)
    (D__law_pick : Df K mg "_law_pick" s__law_pick)
    (D__law_prime : Df K mg "_law_prime" s__law_prime)
    (D__law_integer : Df K mg "_law_integer" s__law_integer)
    (D__law_body : Df K mg "_law_body" s__law_body)
    (D__law_shift : Df K mg "_law_shift" s__law_shift)
    (D__law_flat_program : Df K mg "_law_flat_program" s__law_flat_program)
    (D__law_short_program : Df K mg "_law_short_program" s__law_short_program)
    (D__law_backward : Df K mg "_law_backward" s__law_backward)
    (D__law_stepped : Df K mg "_law_stepped" s__law_stepped)
    (D__law_terms : Df K mg "_law_terms" s__law_terms)
    (D__law_below : Df K mg "_law_below" s__law_below)
    (D__law_touched : Df K mg "_law_touched" s__law_touched)
    (D_law : Df K mg "law" s_law) : ∃ fd : FuncData, (∀ (s : Shared) (v : Value), BindsTo s fd ⟨[v], []⟩ [("_law_script", v)]) ∧ ∀ base : Heap, K.In base → base.Ns mainGlobals mg → Kept l.prog w K mg base fa fd ["_law_script"] (sp_law K) := by
  refine law_of hfa D_law (fun _ _ _ _ _ _ s v => .of_eq rfl) fun base f fd F => ?_
  have C_common_divisor : Cal l.prog w K mg base 1 "common_divisor" sp_common_divisor := cal_of (ps := ["one", "other"]) D_common_divisor (fun _ _ _ _ _ _ us hl => match us, hl with | [_, _], _ => rfl) fun f fd F => ok_common_divisor F B
  have C_shift_of : Cal l.prog w K mg base (3 + 0) "shift_of" (sp_shift_of K 3) := cal_rec (ps := ["program"]) 0 (sp := sp_shift_of K) D_shift_of (fun _ _ _ _ _ _ us hl => match us, hl with | [_], _ => rfl) (fun vs H Q E h => by obtain ⟨_, _, _, _, z, _⟩ := h; exact absurd z (Nat.not_lt_zero _)) (fun k C f fd F => ok_shift_of k C F B) 3
  have C_repeated : Cal l.prog w K mg base 1 "repeated" (sp_repeated K) := cal_of (ps := ["term", "count", "stride"]) D_repeated (fun _ _ _ _ _ _ us hl => match us, hl with | [_, _, _], _ => rfl) fun f fd F => ok_repeated F B
  have C_terms_of : Cal l.prog w K mg base (3 + 3) "terms_of" (sp_terms_of K 3) := cal_rec (ps := ["program", "place"]) 3 (sp := sp_terms_of K) D_terms_of (fun _ _ _ _ _ _ us hl => match us, hl with | [_, _], _ => rfl) (fun vs H Q E h => by obtain ⟨_, _, _, _, _, z, _⟩ := h; exact absurd z (Nat.not_lt_zero _)) (fun k C f fd F => ok_terms_of k C F B C_shift_of C_repeated) 3
  have C_pairs_at : Cal l.prog w K mg base 2 "pairs_at" (sp_pairs_at K) := cal_of (ps := ["one", "other", "distance"]) D_pairs_at (fun _ _ _ _ _ _ us hl => match us, hl with | [_, _, _], _ => rfl) fun f fd F => ok_pairs_at F B C_common_divisor
  have C_ways_at : Cal l.prog w K mg base 3 "ways_at" (sp_ways_at K) := cal_of (ps := ["rounds", "distance"]) D_ways_at (fun _ _ _ _ _ _ us hl => match us, hl with | [_, _], _ => rfl) fun f fd F => ok_ways_at F B C_pairs_at
  have C_value_of : Cal l.prog w K mg base 4 "value_of" (sp_value_of K) := cal_of (ps := ["prime", "terms", "place"]) D_value_of (fun _ _ _ _ _ _ us hl => match us, hl with | [_, _, _], _ => rfl) fun f fd F => ok_value_of F B C_ways_at
  have C_value_at : Cal l.prog w K mg base 7 "value_at" (sp_value_at K) := cal_of (ps := ["prime", "program", "place"]) D_value_at (fun _ _ _ _ _ _ us hl => match us, hl with | [_, _, _], _ => rfl) fun f fd F => ok_value_at F B C_terms_of C_value_of
  have C__law_pen : Cal l.prog w K mg base 1 "_law_pen" (sp__law_pen K) := cal_of (ps := ["_law_script"]) D__law_pen (fun _ _ _ _ _ _ us hl => match us, hl with | [_], _ => rfl) fun f fd F => ok__law_pen F B
  have C__law_draw : Cal l.prog w K mg base 1 "_law_draw" sp__law_draw := cal_of (ps := ["_law_pen_here", "_law_many"]) D__law_draw (fun _ _ _ _ _ _ us hl => match us, hl with | [_, _], _ => rfl) fun f fd F => ok__law_draw F B
  have C__law_pick : Cal l.prog w K mg base 2 "_law_pick" sp__law_pick := cal_of (ps := ["_law_pen_here", "_law_options"]) D__law_pick (fun _ _ _ _ _ _ us hl => match us, hl with | [_, _], _ => rfl) fun f fd F => ok__law_pick F B C__law_draw
  have C__law_prime : Cal l.prog w K mg base 3 "_law_prime" sp__law_prime := cal_of (ps := ["_law_pen_here"]) D__law_prime (fun _ _ _ _ _ _ us hl => match us, hl with | [_], _ => rfl) fun f fd F => ok__law_prime F B C__law_pick
  have C__law_integer : Cal l.prog w K mg base 2 "_law_integer" sp__law_integer := cal_of (ps := ["_law_pen_here", "_law_most"]) D__law_integer (fun _ _ _ _ _ _ us hl => match us, hl with | [_, _], _ => rfl) fun f fd F => ok__law_integer F B C__law_draw
  have C__law_body : Cal l.prog w K mg base 3 "_law_body" (sp__law_body K) := cal_of (ps := ["_law_pen_here", "_law_most", "_law_reach"]) D__law_body (fun _ _ _ _ _ _ us hl => match us, hl with | [_, _, _], _ => rfl) fun f fd F => ok__law_body F B C__law_draw C__law_pick C__law_integer
  have C__law_shift : Cal l.prog w K mg base (3 + 0) "_law_shift" (sp__law_shift K 3) := cal_rec (ps := ["_law_program"]) 0 (sp := sp__law_shift K) D__law_shift (fun _ _ _ _ _ _ us hl => match us, hl with | [_], _ => rfl) (fun vs H Q E h => by obtain ⟨_, _, _, _, z, _⟩ := h; exact absurd z (Nat.not_lt_zero _)) (fun k C f fd F => ok__law_shift k C F B) 3
  have C__law_flat_program : Cal l.prog w K mg base 4 "_law_flat_program" (sp__law_flat_programC K) := cal_of (ps := ["_law_pen_here", "_law_most", "_law_reach", "_law_rounds"]) D__law_flat_program (fun _ _ _ _ _ _ us hl => match us, hl with | [_, _, _, _], _ => rfl) fun f fd F => ok__law_flat_program F B C__law_draw C__law_body
  have C__law_short_program : Cal l.prog w K mg base 5 "_law_short_program" (sp__law_short_programC K) := cal_of (ps := ["_law_pen_here", "_law_most", "_law_reach", "_law_rounds"]) D__law_short_program (fun _ _ _ _ _ _ us hl => match us, hl with | [_, _, _, _], _ => rfl) fun f fd F => ok__law_short_program F B C__law_draw C__law_body C__law_flat_program
  have C__law_backward : Cal l.prog w K mg base (3 + 0) "_law_backward" (sp__law_backward K 3) := cal_rec (ps := ["_law_program"]) 0 (sp := sp__law_backward K) D__law_backward (fun _ _ _ _ _ _ us hl => match us, hl with | [_], _ => rfl) (fun vs H Q E h => by obtain ⟨_, _, _, _, z, _⟩ := h; exact absurd z (Nat.not_lt_zero _)) (fun k C f fd F => ok__law_backward k C F B) 3
  have C__law_stepped : Cal l.prog w K mg base (3 + 0) "_law_stepped" (sp__law_stepped K 3) := cal_rec (ps := ["_law_program", "_law_factor"]) 0 (sp := sp__law_stepped K) D__law_stepped (fun _ _ _ _ _ _ us hl => match us, hl with | [_, _], _ => rfl) (fun vs H Q E h => by obtain ⟨_, _, _, _, _, z, _⟩ := h; exact absurd z (Nat.not_lt_zero _)) (fun k C f fd F => ok__law_stepped k C F B) 3
  have C__law_terms : Cal l.prog w K mg base (3 + 3) "_law_terms" (sp__law_terms K 3) := cal_rec (ps := ["_law_program"]) 3 (sp := sp__law_terms K) D__law_terms (fun _ _ _ _ _ _ us hl => match us, hl with | [_], _ => rfl) (fun vs H Q E h => by obtain ⟨_, _, _, _, z, _⟩ := h; exact absurd z (Nat.not_lt_zero _)) (fun k C f fd F => ok__law_terms k C F B C__law_shift) 3
  have C__law_below : Cal l.prog w K mg base 3 "_law_below" sp__law_below := cal_of (ps := ["_law_pen_here", "_law_count"]) D__law_below (fun _ _ _ _ _ _ us hl => match us, hl with | [_, _], _ => rfl) fun f fd F => ok__law_below F B C__law_draw C__law_pick
  have C__law_touched : Cal l.prog w K mg base 7 "_law_touched" (sp__law_touched K) := cal_of (ps := ["_law_pen_here", "_law_program"]) D__law_touched (fun _ _ _ _ _ _ us hl => match us, hl with | [_, _], _ => rfl) fun f fd F => ok__law_touched F B C__law_pick C__law_integer C__law_terms C__law_below
  exact law_ok F B C__law_pen C__law_draw C__law_pick C__law_prime C__law_short_program C__law_touched C__law_stepped C__law_backward C_shift_of C_value_at
end DR
open PySem PySem.W PyProof.Rows
set_option maxRecDepth 100000 in
set_option maxHeartbeats 0 in
theorem PySem.Challenge.cw_dialroad_k34_whole_dials_add_up_holds : PySem.Challenge.rw_dialroad_k34_whole_dials_add_up.Holds := by
  w_on; o_law; k_head; (case hw => w_witness2)
  k_fill
  refine DR.walk_kept (l := PySem.Challenge.rw_dialroad_k34_whole_dials_add_up) (sp := DR.sp_law) (x := "_law_script") rfl rfl (fun w h Y => PySem.W.kIn_of Y) ?F fun K H a ns hl hS => ⟨a, ns, rfl, hS, hl, fun _ => rfl⟩
  case F =>
    intro w mg fa h KX G hmg
    refine' DR.all_mk hmg ⟨PySem.W.mg_none_of KX G ?z_tuple, PySem.W.mg_none_of KX G ?z_sorted, PySem.W.mg_none_of KX G ?z_range, PySem.W.mg_none_of KX G ?z_list, PySem.W.mg_none_of KX G ?z_len, PySem.W.mg_none_of KX G ?z_abs, PySem.W.mg_none_of KX G ?z_repr, PySem.W.mg_none_of KX G ?z_int, PySem.W.mg_none_of KX G ?z_bool, PySem.W.mg_none_of KX G ?z_dict, PySem.W.mg_none_of KX G ?z_min, PySem.W.mg_none_of KX G ?z_max, PySem.W.mg_none_of KX G ?z_zip, PySem.W.mg_none_of KX G ?z_all, PySem.W.mg_none_of KX G ?z_isinstance, PySem.W.mg_none_of KX G ?z_sum, PySem.W.mg_none_of KX G ?z_any, PySem.W.mg_none_of KX G ?z_str, PySem.W.mg_none_of KX G ?z_set⟩ ?D_common_divisor ?D_shift_of ?D_repeated ?D_terms_of ?D_pairs_at ?D_ways_at ?D_value_of ?D_value_at ?D__law_pen ?D__law_draw ?D__law_pick ?D__law_prime ?D__law_integer ?D__law_body ?D__law_shift ?D__law_flat_program ?D__law_short_program ?D__law_backward ?D__law_stepped ?D__law_terms ?D__law_below ?D__law_touched ?D_law
    (case z_tuple => k_is)
    (case z_sorted => k_is)
    (case z_range => k_is)
    (case z_list => k_is)
    (case z_len => k_is)
    (case z_abs => k_is)
    (case z_repr => k_is)
    (case z_int => k_is)
    (case z_bool => k_is)
    (case z_dict => k_is)
    (case z_min => k_is)
    (case z_max => k_is)
    (case z_zip => k_is)
    (case z_all => k_is)
    (case z_isinstance => k_is)
    (case z_sum => k_is)
    (case z_any => k_is)
    (case z_str => k_is)
    (case z_set => k_is)
    (case D_common_divisor => refine' DR.df_mk KX G ?a ?l ?c ?k; (case a => k_is); (case l => k_is); (case c => k_is); (case k => k_is))
    (case D_shift_of => refine' DR.df_mk KX G ?a ?l ?c ?k; (case a => k_is); (case l => k_is); (case c => k_is); (case k => k_is))
    (case D_repeated => refine' DR.df_mk KX G ?a ?l ?c ?k; (case a => k_is); (case l => k_is); (case c => k_is); (case k => k_is))
    (case D_terms_of => refine' DR.df_mk KX G ?a ?l ?c ?k; (case a => k_is); (case l => k_is); (case c => k_is); (case k => k_is))
    (case D_pairs_at => refine' DR.df_mk KX G ?a ?l ?c ?k; (case a => k_is); (case l => k_is); (case c => k_is); (case k => k_is))
    (case D_ways_at => refine' DR.df_mk KX G ?a ?l ?c ?k; (case a => k_is); (case l => k_is); (case c => k_is); (case k => k_is))
    (case D_value_of => refine' DR.df_mk KX G ?a ?l ?c ?k; (case a => k_is); (case l => k_is); (case c => k_is); (case k => k_is))
    (case D_value_at => refine' DR.df_mk KX G ?a ?l ?c ?k; (case a => k_is); (case l => k_is); (case c => k_is); (case k => k_is))
    (case D__law_pen => refine' DR.df_mk KX G ?a ?l ?c ?k; (case a => k_is); (case l => k_is); (case c => k_is); (case k => k_is))
    (case D__law_draw => refine' DR.df_mk KX G ?a ?l ?c ?k; (case a => k_is); (case l => k_is); (case c => k_is); (case k => k_is))
    (case D__law_pick => refine' DR.df_mk KX G ?a ?l ?c ?k; (case a => k_is); (case l => k_is); (case c => k_is); (case k => k_is))
    (case D__law_prime => refine' DR.df_mk KX G ?a ?l ?c ?k; (case a => k_is); (case l => k_is); (case c => k_is); (case k => k_is))
    (case D__law_integer => refine' DR.df_mk KX G ?a ?l ?c ?k; (case a => k_is); (case l => k_is); (case c => k_is); (case k => k_is))
    (case D__law_body => refine' DR.df_mk KX G ?a ?l ?c ?k; (case a => k_is); (case l => k_is); (case c => k_is); (case k => k_is))
    (case D__law_shift => refine' DR.df_mk KX G ?a ?l ?c ?k; (case a => k_is); (case l => k_is); (case c => k_is); (case k => k_is))
    (case D__law_flat_program => refine' DR.df_mk KX G ?a ?l ?c ?k; (case a => k_is); (case l => k_is); (case c => k_is); (case k => k_is))
    (case D__law_short_program => refine' DR.df_mk KX G ?a ?l ?c ?k; (case a => k_is); (case l => k_is); (case c => k_is); (case k => k_is))
    (case D__law_backward => refine' DR.df_mk KX G ?a ?l ?c ?k; (case a => k_is); (case l => k_is); (case c => k_is); (case k => k_is))
    (case D__law_stepped => refine' DR.df_mk KX G ?a ?l ?c ?k; (case a => k_is); (case l => k_is); (case c => k_is); (case k => k_is))
    (case D__law_terms => refine' DR.df_mk KX G ?a ?l ?c ?k; (case a => k_is); (case l => k_is); (case c => k_is); (case k => k_is))
    (case D__law_below => refine' DR.df_mk KX G ?a ?l ?c ?k; (case a => k_is); (case l => k_is); (case c => k_is); (case k => k_is))
    (case D__law_touched => refine' DR.df_mk KX G ?a ?l ?c ?k; (case a => k_is); (case l => k_is); (case c => k_is); (case k => k_is))
    (case D_law => refine' DR.df_mk KX G ?a ?l ?c ?k; (case a => k_is); (case l => k_is); (case c => k_is); (case k => k_is))
