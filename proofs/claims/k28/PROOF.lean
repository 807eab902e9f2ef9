import PyProof.Rows.All
import Wide.All
import OpenK.AllK
import Wide.FinOn
import HandS.Base
import HandS.Call
import HandS.List
import HandS.Comp
import HandS.Dict
import HandS.Iter
import HandS.Ends
import HandS.Words
import HandS.More
import HandS.Wide
import HandS.TupAny
import HandS.IsInst
import HandS.Zip
import HandS.Flow
import HandS.ForMost
import HandS.NoneIn
import HandS.SortInts
import PyProof.ReprRoads
import PyProof.ReprLen
import HandS.Style
import HandS.TupLe
import HandS.DictComp
import HandS.Small
import HandS.ExcIs
import HandS.WordsExc
import HandS.ExcOwn
import PyProof.ExcBaseAll.ArithmeticError
import PyProof.ExcBaseAll.ValueError
import KE.KExcInit
import HandS.ExcInit
import KE.KExcIs
import HandS.Walk
import HandS.ListItems
import HandS.Sort
import KE.KDictPairs
import PyProof.NeKinds
import HandS.ListEq
import HandS.DeepEq
import HandS.Conv
import HandS.DictTup
import KE.KeyNested
import KE.KDictKeyed
import KE.KDictWalk
import HandS.Spec
import HandS.Records
import KE.DataFind
import HandS.SetFor
import HandS.Strs
import HandS.TupSets
import HandS.TryOnly
import HandS.Style
import KE.RegKIsAll
import KE.RegKTryMore
import KE.KExcLine
import PySem.Challenge.RW_dialroad_k28_limit_of_executed_instructi
set_option Elab.async false
set_option linter.all false
set_option maxRecDepth 100000
set_option maxHeartbeats 4000000
set_option exponentiation.threshold 500
/-! Polynomials as lists of pairs (exponent, coefficient): what they are worth, and when two of them are one. -/
namespace DR
abbrev Pol := List (Int × Int)
/-- the sum of the coefficients at e -/
def cf : Pol → Int → Int
  | [], _ => 0
  | t :: r, e => (if t.1 = e then t.2 else 0) + cf r e
theorem cf_nil (e : Int) : cf [] e = 0 := rfl
theorem cf_cons (t : Int × Int) (r : Pol) (e : Int) : cf (t :: r) e = (if t.1 = e then t.2 else 0) + cf r e := rfl
theorem cf_append : ∀ (f g : Pol) (e : Int), cf (f ++ g) e = cf f e + cf g e
  | [], g, e => by simp [cf]
  | t :: r, g, e => by
    rw [List.cons_append, cf_cons, cf_cons, cf_append r g e]
    omega
theorem cf_none : ∀ (f : Pol) (e : Int), (∀ t ∈ f, t.1 ≠ e) → cf f e = 0
  | [], _, _ => rfl
  | t :: r, e, h => by
    rw [cf_cons, if_neg (h t List.mem_cons_self), cf_none r e fun u hu => h u (List.mem_cons_of_mem _ hu)]
    rfl
theorem cf_ne {f : Pol} {e : Int} (h : cf f e ≠ 0) : ∃ t ∈ f, t.1 = e := by
  refine Classical.byContradiction fun q => h (cf_none f e fun t ht z => q ⟨t, ht, z⟩)
/-- canonical: ascending, coefficients from 1 to p - 1, worth F modulo p -/
structure Nf (p : Int) (g : Pol) (F : Int → Int) : Prop where
  asc : g.Pairwise fun x y => x.1 < y.1
  rng : ∀ t ∈ g, 0 < t.2 ∧ t.2 < p
  cof : ∀ e, cf g e = F e % p
theorem cf_head {t : Int × Int} {r : Pol} (h : (t :: r).Pairwise fun x y => x.1 < y.1) : cf (t :: r) t.1 = t.2 := by
  rw [cf_cons, if_pos rfl, cf_none r t.1 fun u hu z => ?_]
  · omega
  · have := (List.pairwise_cons.mp h).1 u hu
    omega
theorem asc_le {t : Int × Int} {r : Pol} (h : (t :: r).Pairwise fun x y => x.1 < y.1) {u : Int × Int} (hu : u ∈ t :: r) : t.1 ≤ u.1 := by
  rcases List.mem_cons.mp hu with e | e
  · rw [e]
    exact Int.le_refl _
  · exact Int.le_of_lt ((List.pairwise_cons.mp h).1 u e)
theorem cf_mem : ∀ {g : Pol}, (g.Pairwise fun x y => x.1 < y.1) → ∀ t ∈ g, cf g t.1 = t.2
  | [], _, t, h => absurd h List.not_mem_nil
  | u :: r, hp, t, h => by
    rcases List.mem_cons.mp h with e | e
    · rw [e]
      exact cf_head hp
    · have hlt := (List.pairwise_cons.mp hp).1 t e
      rw [cf_cons, if_neg (by omega), cf_mem (List.pairwise_cons.mp hp).2 t e]
      omega
theorem asc_ext : ∀ {g g' : Pol}, (g.Pairwise fun x y => x.1 < y.1) → (g'.Pairwise fun x y => x.1 < y.1) → (∀ t ∈ g, t.2 ≠ 0) → (∀ t ∈ g', t.2 ≠ 0) → (∀ e, cf g e = cf g' e) → g = g'
  | [], [], _, _, _, _, _ => rfl
  | [], u :: s, _, h', _, n', c => by
    have := c u.1
    rw [cf_head h'] at this
    exact absurd this.symm (n' u List.mem_cons_self)
  | t :: r, [], h, _, n, _, c => by
    have := c t.1
    rw [cf_head h] at this
    exact absurd this (n t List.mem_cons_self)
  | t :: r, u :: s, h, h', n, n', c => by
    have a1 : t.1 = u.1 := by
      have e1 := c t.1
      rw [cf_head h] at e1
      obtain ⟨x, hx, ex⟩ := cf_ne (f := u :: s) (e := t.1) (by rw [← e1]; exact n t List.mem_cons_self)
      have e2 := c u.1
      rw [cf_head h'] at e2
      obtain ⟨y, hy, ey⟩ := cf_ne (f := t :: r) (e := u.1) (by rw [e2]; exact n' u List.mem_cons_self)
      have l1 := asc_le h' hx
      have l2 := asc_le h hy
      omega
    have a2 : t.2 = u.2 := by
      have e1 := c t.1
      rw [cf_head h, a1, cf_head h'] at e1
      exact e1
    have e : t = u := Prod.ext a1 a2
    subst e
    congr 1
    refine asc_ext (List.pairwise_cons.mp h).2 (List.pairwise_cons.mp h').2 (fun x hx => n x (List.mem_cons_of_mem _ hx)) (fun x hx => n' x (List.mem_cons_of_mem _ hx)) fun e => ?_
    have := c e
    rw [cf_cons, cf_cons] at this
    omega
theorem Nf.uniq {p : Int} {g g' : Pol} {F F' : Int → Int} (a : Nf p g F) (b : Nf p g' F') (h : ∀ e, F e % p = F' e % p) : g = g' :=
  asc_ext a.asc b.asc (fun t ht => by have := a.rng t ht; omega) (fun t ht => by have := b.rng t ht; omega) fun e => by rw [a.cof, b.cof, h]
theorem Nf.to {p : Int} {g : Pol} {F F' : Int → Int} (a : Nf p g F) (h : ∀ e, F e % p = F' e % p) : Nf p g F' := ⟨a.asc, a.rng, fun e => by rw [a.cof, h]⟩
theorem Nf.self {p : Int} {g : Pol} {F : Int → Int} (a : Nf p g F) : Nf p g (cf g) := a.to fun e => by rw [a.cof, Int.emod_emod]
/-- every exponent of g is one of f's, where g is worth nothing where f has no exponent -/
theorem Nf.sub {p : Int} {g : Pol} {F : Int → Int} (a : Nf p g F) {L : List Int} (h : ∀ e, e ∉ L → F e % p = 0) : ∀ t ∈ g, t.1 ∈ L := fun t ht => by
  refine Classical.byContradiction fun n => ?_
  have e1 := a.cof t.1
  rw [cf_mem a.asc t ht, h _ n] at e1
  have := (a.rng t ht).1
  omega
theorem nd_len : ∀ {L M : List Int}, L.Nodup → (∀ x ∈ L, x ∈ M) → L.length ≤ M.length
  | [], M, _, _ => Nat.zero_le _
  | x :: L, M, h, s => by
    have hx : x ∈ M := s x List.mem_cons_self
    have n := (List.nodup_cons.mp h)
    have := nd_len (L := L) (M := M.erase x) n.2 fun y hy => by
      have hne : y ≠ x := fun e => n.1 (e ▸ hy)
      exact (List.mem_erase_of_ne hne).mpr (s y (List.mem_cons_of_mem _ hy))
    rw [List.length_erase_of_mem hx] at this
    have hp : 0 < M.length := List.length_pos_of_mem hx
    rw [List.length_cons]
    omega
theorem asc_nodup {g : Pol} (h : g.Pairwise fun x y => x.1 < y.1) : (g.map (·.1)).Nodup := by
  rw [List.nodup_iff_pairwise_ne, List.pairwise_map]
  exact h.imp fun q => by omega
theorem Nf.len {p : Int} {g : Pol} {F : Int → Int} (a : Nf p g F) {L : List Int} (h : ∀ e, e ∉ L → F e % p = 0) : g.length ≤ L.length := by
  have := nd_len (asc_nodup a.asc) (M := L) fun x hx => by
    obtain ⟨t, ht, rfl⟩ := List.mem_map.mp hx
    exact a.sub h t ht
  rw [List.length_map] at this
  exact this
theorem cf_out {f : Pol} {e : Int} (h : e ∉ f.map (·.1)) : cf f e = 0 := cf_none f e fun t ht z => h (z ▸ List.mem_map_of_mem ht)
/-! a dict of ints, by its pairs -/
def put : Pol → Int → Int → Pol
  | [], e, v => [(e, v)]
  | t :: r, e, v => if t.1 = e then (e, v) :: r else t :: put r e v
theorem put_keys : ∀ (m : Pol) (e v x : Int), x ∈ (put m e v).map (·.1) → x = e ∨ x ∈ m.map (·.1)
  | [], e, v, x, h => by
    have : x = e := by simpa [put] using h
    exact .inl this
  | t :: r, e, v, x, h => by
    unfold put at h
    split at h
    · rename_i q
      rcases List.mem_cons.mp h with z | z
      · exact .inl z
      · exact .inr (List.mem_cons_of_mem _ z)
    · rcases List.mem_cons.mp h with z | z
      · exact .inr (by rw [z]; exact List.mem_cons_self)
      · rcases put_keys r e v x z with w | w
        · exact .inl w
        · exact .inr (List.mem_cons_of_mem _ w)
theorem put_nodup : ∀ (m : Pol) (e v : Int), (m.map (·.1)).Nodup → ((put m e v).map (·.1)).Nodup
  | [], e, v, _ => by simp [put]
  | t :: r, e, v, h => by
    have h' : (t.1 :: r.map (·.1)).Nodup := h
    have n := List.nodup_cons.mp h'
    unfold put
    split
    · rename_i q
      show (e :: r.map (·.1)).Nodup
      rw [← q]
      exact h'
    · rename_i q
      show (t.1 :: (put r e v).map (·.1)).Nodup
      refine List.nodup_cons.mpr ⟨fun z => ?_, put_nodup r e v n.2⟩
      rcases put_keys r e v t.1 z with w | w
      · exact q w
      · exact n.1 w
theorem put_cf : ∀ (m : Pol) (e v x : Int), (m.map (·.1)).Nodup → cf (put m e v) x = if x = e then v else cf m x
  | [], e, v, x, _ => by
    show (if e = x then v else 0) + 0 = _
    by_cases q : x = e
    · rw [if_pos q, if_pos q.symm]
      omega
    · rw [if_neg q, if_neg (fun z => q z.symm)]
      rfl
  | t :: r, e, v, x, h => by
    have h' : (t.1 :: r.map (·.1)).Nodup := h
    have n := List.nodup_cons.mp h'
    unfold put
    split
    · rename_i q
      rw [cf_cons, cf_cons]
      by_cases z : x = e
      · rw [if_pos z, if_pos z.symm, cf_out (f := r) (e := x) (by rw [z, ← q]; exact n.1)]
        omega
      · rw [if_neg z, if_neg (fun w => z w.symm), if_neg (fun w => z (w.symm.trans q))]
    · rename_i q
      rw [cf_cons, cf_cons, put_cf r e v x n.2]
      by_cases z : x = e
      · rw [if_pos z, if_pos z, if_neg (by omega)]
        omega
      · rw [if_neg z, if_neg z]
theorem put_len : ∀ (m : Pol) (e v : Int), (put m e v).length ≤ m.length + 1
  | [], _, _ => Nat.le_refl _
  | t :: r, e, v => by
    unfold put
    split
    · exact Nat.le_succ _
    · have := put_len r e v
      rw [List.length_cons, List.length_cons]
      omega
/-! what the sorted keys give -/
def kept (p : Int) (F : Int → Int) (ys : List Int) : Pol := (ys.filter fun e => decide (F e % p ≠ 0)).map fun e => (e, F e % p)
theorem kept_nil (p : Int) (F : Int → Int) : kept p F [] = [] := rfl
theorem kept_snoc (p : Int) (F : Int → Int) (ys : List Int) (e : Int) : kept p F (ys ++ [e]) = kept p F ys ++ (if F e % p ≠ 0 then [(e, F e % p)] else []) := by
  unfold kept
  rw [List.filter_append, List.map_append]
  congr 1
  by_cases h : F e % p ≠ 0
  · rw [if_pos h]
    simp [h]
  · rw [if_neg h]
    have : F e % p = 0 := Classical.byContradiction h
    simp [this]
theorem kept_cf (p : Int) (F : Int → Int) : ∀ (ys : List Int) (x : Int), ys.Nodup → cf (kept p F ys) x = if x ∈ ys then F x % p else 0
  | [], x, _ => by simp [kept, cf]
  | y :: r, x, h => by
    have n := List.nodup_cons.mp h
    have ih := kept_cf p F r x n.2
    have e : kept p F (y :: r) = (if F y % p ≠ 0 then [(y, F y % p)] else []) ++ kept p F r := by
      unfold kept
      rw [List.filter_cons]
      by_cases q : F y % p ≠ 0
      · simp [q]
      · have : F y % p = 0 := Classical.byContradiction q
        simp [this]
    rw [e, cf_append, ih]
    by_cases z : x = y
    · subst z
      rw [if_neg n.1, if_pos List.mem_cons_self]
      by_cases q : F x % p ≠ 0
      · rw [if_pos q]
        simp [cf]
      · rw [if_neg q]
        have : F x % p = 0 := Classical.byContradiction q
        rw [this]
        rfl
    · have : cf (if F y % p ≠ 0 then [(y, F y % p)] else []) x = 0 := by
        refine cf_none _ _ fun t ht w => ?_
        split at ht
        · have : t = (y, F y % p) := by simpa using ht
          rw [this] at w
          exact z w.symm
        · cases ht
      rw [this]
      by_cases q : x ∈ r
      · rw [if_pos q, if_pos (List.mem_cons_of_mem _ q)]
        omega
      · rw [if_neg q, if_neg (fun w => (List.mem_cons.mp w).elim z q)]
        rfl
theorem le_nd_lt : ∀ {ys : List Int}, ys.Pairwise (· ≤ ·) → ys.Nodup → ys.Pairwise (· < ·)
  | [], _, _ => .nil
  | y :: r, h, n => by
    have a := List.pairwise_cons.mp h
    have b := List.nodup_cons.mp n
    refine List.pairwise_cons.mpr ⟨fun z hz => ?_, le_nd_lt a.2 b.2⟩
    have := a.1 z hz
    have : y ≠ z := fun q => b.1 (q ▸ hz)
    omega
theorem kept_nf {p : Int} {F : Int → Int} {ys : List Int} (hp : 0 < p) (h : ys.Pairwise (· ≤ ·)) (n : ys.Nodup) (z : ∀ e, e ∉ ys → F e % p = 0) : Nf p (kept p F ys) F := by
  refine ⟨?_, fun t ht => ?_, fun e => ?_⟩
  · unfold kept
    rw [List.pairwise_map]
    exact (le_nd_lt h n).sublist List.filter_sublist
  · unfold kept at ht
    obtain ⟨e, he, rfl⟩ := List.mem_map.mp ht
    have q := of_decide_eq_true (List.mem_filter.mp he).2
    have h1 := Int.emod_nonneg (F e) (show p ≠ 0 by omega)
    have h2 := Int.emod_lt_of_pos (F e) hp
    exact ⟨by show 0 < F e % p; omega, h2⟩
  · rw [kept_cf p F ys e n]
    by_cases q : e ∈ ys
    · rw [if_pos q]
    · rw [if_neg q, z e q]
theorem kept_len (p : Int) (F : Int → Int) (ys : List Int) : (kept p F ys).length ≤ ys.length := by
  unfold kept
  rw [List.length_map]
  exact List.length_filter_le _ _
/-! the sums that the functions make -/
theorem cf_scale (k : Int) : ∀ (f : Pol) (e : Int), cf (f.map fun t => (t.1, t.2 * k)) e = cf f e * k
  | [], e => by simp [cf]
  | t :: r, e => by
    rw [List.map_cons, cf_cons, cf_cons, cf_scale k r e, Int.add_mul]
    show (if t.1 = e then t.2 * k else 0) + _ = _
    by_cases h : t.1 = e
    · rw [if_pos h, if_pos h]
    · rw [if_neg h, if_neg h, Int.zero_mul]
def moved (n : Int) (f : Pol) : Pol := f.map fun t => (t.1 + n, t.2)
theorem cf_moved (n : Int) : ∀ (f : Pol) (e : Int), cf (moved n f) e = cf f (e - n)
  | [], e => rfl
  | t :: r, e => by
    show (if t.1 + n = e then t.2 else 0) + cf (moved n r) e = (if t.1 = e - n then t.2 else 0) + cf r (e - n)
    rw [cf_moved n r e]
    by_cases h : t.1 + n = e
    · rw [if_pos h, if_pos (by omega)]
    · rw [if_neg h, if_neg (by omega)]
theorem Nf.moved {p : Int} {g : Pol} {F : Int → Int} (a : Nf p g F) (n : Int) : Nf p (moved n g) (fun e => F (e - n)) := by
  refine ⟨?_, fun t ht => ?_, fun e => by rw [cf_moved, a.cof]⟩
  · unfold DR.moved
    rw [List.pairwise_map]
    exact a.asc.imp fun q => by omega
  · obtain ⟨u, hu, rfl⟩ := List.mem_map.mp (show t ∈ g.map fun t => (t.1 + n, t.2) from ht)
    exact a.rng u hu
/-- 1 at 0, s, .., (n - 1) * s -/
def rounds (n : Nat) (s : Int) : Pol := (List.range n).map fun (m : Nat) => ((m : Int) * s, (1 : Int))
/-- a term times a polynomial; all products of two terms -/
def times (t : Int × Int) (g : Pol) : Pol := g.map fun u => (t.1 + u.1, t.2 * u.2)
def prods (f g : Pol) : Pol := f.flatMap fun t => times t g
theorem prods_nil (g : Pol) : prods [] g = [] := rfl
theorem prods_snoc (f g : Pol) (t : Int × Int) : prods (f ++ [t]) g = prods f g ++ times t g := by
  unfold prods
  rw [List.flatMap_append]
  simp
theorem times_len (t : Int × Int) (g : Pol) : (times t g).length = g.length := by
  unfold times
  rw [List.length_map]
theorem prods_len : ∀ f g : Pol, (prods f g).length = f.length * g.length
  | [], g => by simp [prods]
  | t :: r, g => by
    show (times t g ++ prods r g).length = _
    rw [List.length_append, times_len, prods_len r g, List.length_cons, Nat.add_mul, Nat.one_mul, Nat.add_comm]
theorem prods_mem {f g : Pol} {x : Int × Int} (h : x ∈ prods f g) : ∃ t ∈ f, ∃ u ∈ g, x = (t.1 + u.1, t.2 * u.2) := by
  obtain ⟨t, ht, hx⟩ := List.mem_flatMap.mp h
  obtain ⟨u, hu, rfl⟩ := List.mem_map.mp (show x ∈ g.map fun u => (t.1 + u.1, t.2 * u.2) from hx)
  exact ⟨t, ht, u, hu, rfl⟩
end DR
/-! Products of polynomials: a ring without divisors of zero, modulo a prime. -/
namespace DR
/-- what the products of two polynomials are worth at e -/
def conv : Pol → (Int → Int) → Int → Int
  | [], _, _ => 0
  | t :: r, G, e => t.2 * G (e - t.1) + conv r G e
theorem cf_times (t : Int × Int) : ∀ (g : Pol) (e : Int), cf (times t g) e = t.2 * cf g (e - t.1)
  | [], e => by simp [times, cf]
  | u :: r, e => by
    show (if t.1 + u.1 = e then t.2 * u.2 else 0) + cf (times t r) e = t.2 * ((if u.1 = e - t.1 then u.2 else 0) + cf r (e - t.1))
    rw [cf_times t r e, Int.mul_add]
    by_cases h : t.1 + u.1 = e
    · rw [if_pos h, if_pos (by omega)]
    · rw [if_neg h, if_neg (by omega), Int.mul_zero]
theorem cf_prods : ∀ (f g : Pol) (e : Int), cf (prods f g) e = conv f (cf g) e
  | [], g, e => rfl
  | t :: r, g, e => by
    show cf (times t g ++ prods r g) e = _
    rw [cf_append, cf_times, cf_prods r g e]
    rfl
theorem conv_add (G G' : Int → Int) : ∀ (f : Pol) (e : Int), conv f (fun x => G x + G' x) e = conv f G e + conv f G' e
  | [], e => rfl
  | t :: r, e => by
    show t.2 * (G (e - t.1) + G' (e - t.1)) + conv r _ e = (t.2 * G (e - t.1) + conv r G e) + (t.2 * G' (e - t.1) + conv r G' e)
    rw [conv_add G G' r e, Int.mul_add]
    omega
theorem conv_congr {G G' : Int → Int} (h : ∀ x, G x = G' x) : ∀ (f : Pol) (e : Int), conv f G e = conv f G' e
  | [], e => rfl
  | t :: r, e => by
    show t.2 * G (e - t.1) + conv r G e = t.2 * G' (e - t.1) + conv r G' e
    rw [h, conv_congr h r e]
theorem conv_mod {p : Int} {G G' : Int → Int} (h : ∀ x, G x % p = G' x % p) : ∀ (f : Pol) (e : Int), conv f G e % p = conv f G' e % p
  | [], e => rfl
  | t :: r, e => by
    show (t.2 * G (e - t.1) + conv r G e) % p = (t.2 * G' (e - t.1) + conv r G' e) % p
    rw [Int.add_emod, Int.mul_emod, h, conv_mod h r e, ← Int.mul_emod, ← Int.add_emod]
theorem conv_smul (k : Int) (G : Int → Int) : ∀ (f : Pol) (e : Int), conv f (fun x => k * G x) e = k * conv f G e
  | [], e => by show (0 : Int) = k * 0; rw [Int.mul_zero]
  | t :: r, e => by
    show t.2 * (k * G (e - t.1)) + conv r _ e = k * (t.2 * G (e - t.1) + conv r G e)
    rw [conv_smul k G r e, Int.mul_add, Int.mul_left_comm]
/-- a single term added on the right -/
theorem conv_snd (u : Int × Int) (G : Int → Int) (f : Pol) (e : Int) : conv f (fun x => (if u.1 = x then u.2 else 0) + G x) e = u.2 * cf f (e - u.1) + conv f G e := by
  rw [conv_add]
  congr 1
  induction f with
  | nil => show (0 : Int) = u.2 * 0; rw [Int.mul_zero]
  | cons t r ih =>
    show t.2 * (if u.1 = e - t.1 then u.2 else 0) + conv r _ e = u.2 * ((if t.1 = e - u.1 then t.2 else 0) + cf r (e - u.1))
    rw [ih, Int.mul_add]
    by_cases h : u.1 = e - t.1
    · rw [if_pos h, if_pos (by omega), Int.mul_comm]
    · rw [if_neg h, if_neg (by omega), Int.mul_zero, Int.mul_zero]
theorem conv_zero : ∀ (f : Pol) (e : Int), conv f (fun _ => 0) e = 0
  | [], e => rfl
  | t :: r, e => by
    show t.2 * 0 + conv r _ e = 0
    rw [conv_zero r e, Int.mul_zero]
    rfl
/-- both ways about -/
theorem conv_comm : ∀ (g f : Pol) (e : Int), conv f (cf g) e = conv g (cf f) e
  | [], f, e => (conv_congr (G' := fun _ => 0) (fun _ => rfl) f e).trans (conv_zero f e)
  | u :: r, f, e => by
    show conv f (fun x => (if u.1 = x then u.2 else 0) + cf r x) e = u.2 * cf f (e - u.1) + conv r (cf f) e
    rw [conv_snd, conv_comm r f e]
/-- f counts by its worth alone, modulo p -/
theorem conv_fst {p : Int} {f f' : Pol} (h : ∀ x, cf f x % p = cf f' x % p) (g : Pol) (e : Int) : conv f (cf g) e % p = conv f' (cf g) e % p := by
  rw [conv_comm g f, conv_comm g f', conv_mod h g e]
theorem conv_append : ∀ (f f' : Pol) (G : Int → Int) (e : Int), conv (f ++ f') G e = conv f G e + conv f' G e
  | [], f', G, e => by show conv f' G e = 0 + conv f' G e; rw [Int.zero_add]
  | t :: r, f', G, e => by
    show t.2 * G (e - t.1) + conv (r ++ f') G e = (t.2 * G (e - t.1) + conv r G e) + conv f' G e
    rw [conv_append r f' G e]
    omega
theorem conv_times (t : Int × Int) (G : Int → Int) : ∀ (g : Pol) (e : Int), conv (times t g) G e = t.2 * conv g G (e - t.1)
  | [], e => by show (0 : Int) = t.2 * 0; rw [Int.mul_zero]
  | u :: r, e => by
    show (t.2 * u.2) * G (e - (t.1 + u.1)) + conv (times t r) G e = t.2 * (u.2 * G (e - t.1 - u.1) + conv r G (e - t.1))
    rw [conv_times t G r e, Int.mul_add, Int.mul_assoc, show e - (t.1 + u.1) = e - t.1 - u.1 by omega]
theorem conv_assoc : ∀ (f g : Pol) (G : Int → Int) (e : Int), conv (prods f g) G e = conv f (conv g G) e
  | [], g, G, e => rfl
  | t :: r, g, G, e => by
    show conv (times t g ++ prods r g) G e = t.2 * conv g G (e - t.1) + conv r (conv g G) e
    rw [conv_append, conv_times, conv_assoc r g G e]
theorem conv_moved (n : Int) (G : Int → Int) : ∀ (f : Pol) (e : Int), conv (moved n f) G e = conv f G (e - n)
  | [], e => rfl
  | t :: r, e => by
    show t.2 * G (e - (t.1 + n)) + conv (moved n r) G e = t.2 * G (e - n - t.1) + conv r G (e - n)
    rw [conv_moved n G r e, show e - (t.1 + n) = e - n - t.1 by omega]
theorem mul_emod_l (a b p : Int) : a % p * b % p = a * b % p := by rw [Int.mul_emod, Int.emod_emod, ← Int.mul_emod]
theorem add_emod_l (a b p : Int) : (a % p + b) % p = (a + b) % p := Int.emod_add_emod a p b
theorem sub_mod_eq {a b p : Int} (h : (a - b) % p = 0) : a % p = b % p := by
  have : a = b + (a - b) := by omega
  rw [this, Int.add_emod, h, Int.add_zero, Int.emod_emod]
/-- the least exponents' term of a product -/
theorem conv_least {t u : Int × Int} {r s : Pol} (h : (t :: r).Pairwise fun x y => x.1 < y.1) (h' : (u :: s).Pairwise fun x y => x.1 < y.1) : conv (t :: r) (cf (u :: s)) (t.1 + u.1) = t.2 * u.2 := by
  show t.2 * cf (u :: s) (t.1 + u.1 - t.1) + conv r (cf (u :: s)) (t.1 + u.1) = t.2 * u.2
  rw [show t.1 + u.1 - t.1 = u.1 by omega, cf_head h']
  have : ∀ r : Pol, (∀ x ∈ r, t.1 < x.1) → conv r (cf (u :: s)) (t.1 + u.1) = 0 := by
    intro r
    induction r with
    | nil => intro _; rfl
    | cons x r ih =>
      intro hx
      show x.2 * cf (u :: s) (t.1 + u.1 - x.1) + conv r _ _ = 0
      rw [ih fun y hy => hx y (List.mem_cons_of_mem _ hy), cf_none (u :: s) _ fun y hy e => ?_, Int.mul_zero]
      · rfl
      · have l1 := asc_le h' hy
        have l2 := hx x List.mem_cons_self
        omega
  rw [this r (List.pairwise_cons.mp h).1]
  omega
/-- geometric sums close up -/
theorem rounds_succ (n : Nat) (s : Int) : rounds (n + 1) s = rounds n s ++ [((n : Int) * s, 1)] := by
  unfold rounds
  rw [List.range_succ, List.map_append]
  rfl
theorem rounds_tel (s e : Int) : ∀ n : Nat, cf (rounds n s) e - cf (rounds n s) (e - s) = (if 0 = e then 1 else 0) - (if (n : Int) * s = e then 1 else 0)
  | 0 => by
    show (0 : Int) - 0 = _
    simp
  | n + 1 => by
    rw [rounds_succ, cf_append, cf_append, cf_cons, cf_cons, cf_nil, cf_nil]
    have ih := rounds_tel s e n
    show cf (rounds n s) e + ((if (n : Int) * s = e then 1 else 0) + 0) - (cf (rounds n s) (e - s) + ((if (n : Int) * s = e - s then 1 else 0) + 0)) = _
    have e1 : (((n + 1 : Nat) : Int) * s = e) ↔ ((n : Int) * s = e - s) := by
      rw [Int.natCast_add, Int.add_mul]
      constructor <;> intro h <;> omega
    by_cases h1 : (n : Int) * s = e - s
    · rw [if_pos h1, if_pos (e1.mpr h1)]
      omega
    · rw [if_neg h1, if_neg (fun z => h1 (e1.mp z))]
      omega
end DR
/-! Powers: the rounds of an effect added up, forwards and backwards. -/
namespace DR
def upF (F : Int → Int) (m : Int) : Nat → Int → Int
  | 0, _ => 0
  | n + 1, e => upF F m n e + F (e - (n : Int) * m)
def dnF (F : Int → Int) (m : Int) : Nat → Int → Int
  | 0, _ => 0
  | n + 1, e => dnF F m n e + F (e + ((n : Int) + 1) * m)
/-- what c rounds of an effect with the worth F and the shift m turn -/
def pwF (F : Int → Int) (m : Int) : Int → Int → Int
  | .ofNat n, e => upF F m n e
  | .negSucc n, e => - dnF F m (n + 1) e
theorem pw_zero (F : Int → Int) (m e : Int) : pwF F m 0 e = 0 := rfl
theorem pw_succ (F : Int → Int) (m : Int) : ∀ (c e : Int), pwF F m (c + 1) e = pwF F m c e + F (e - c * m)
  | .ofNat n, e => rfl
  | .negSucc 0, e => by
    show pwF F m (Int.negSucc 0 + 1) e = - (0 + F (e + ((0 : Int) + 1) * m)) + F (e - Int.negSucc 0 * m)
    rw [show Int.negSucc 0 + 1 = 0 from rfl, pw_zero, show Int.negSucc 0 = (-1 : Int) from rfl, show e - -1 * m = e + (0 + 1) * m by omega]
    omega
  | .negSucc (n + 1), e => by
    rw [show Int.negSucc (n + 1) + 1 = Int.negSucc n from rfl]
    show - dnF F m (n + 1) e = - (dnF F m (n + 1) e + F (e + (((n + 1 : Nat) : Int) + 1) * m)) + F (e - Int.negSucc (n + 1) * m)
    have h : Int.negSucc (n + 1) = -(((n + 1 : Nat) : Int) + 1) := by omega
    rw [h, Int.neg_mul, Int.sub_neg]
    omega
theorem int_ind {P : Int → Prop} (h0 : P 0) (hs : ∀ c, P c ↔ P (c + 1)) (c : Int) : P c := by
  have up : ∀ n : Nat, P (n : Int) := fun n => by
    induction n with
    | zero => exact h0
    | succ n ih =>
      have := (hs (n : Int)).mp ih
      exact this
  have dn : ∀ n : Nat, P (-(n : Int)) := fun n => by
    induction n with
    | zero => exact h0
    | succ n ih =>
      refine (hs _).mpr ?_
      rw [show -((n + 1 : Nat) : Int) + 1 = -(n : Int) by omega]
      exact ih
  by_cases h : 0 ≤ c
  · have := up c.toNat
    rw [Int.toNat_of_nonneg h] at this
    exact this
  · have := dn (-c).toNat
    rw [Int.toNat_of_nonneg (by omega), Int.neg_neg] at this
    exact this
theorem pw_add (F : Int → Int) (m a : Int) : ∀ (b e : Int), pwF F m (a + b) e = pwF F m a e + pwF F m b (e - a * m) := by
  intro b
  refine int_ind (P := fun b => ∀ e, pwF F m (a + b) e = pwF F m a e + pwF F m b (e - a * m)) (fun e => ?_) (fun c => ?_) b
  · rw [Int.add_zero, pw_zero, Int.add_zero]
  · have key : ∀ e, F (e - (a + c) * m) = F (e - a * m - c * m) := fun e => by
      congr 1
      rw [Int.add_mul]
      omega
    constructor
    · intro h e
      rw [← Int.add_assoc, pw_succ, pw_succ, h e, key]
      omega
    · intro h e
      have h' := h e
      rw [← Int.add_assoc, pw_succ, pw_succ, key] at h'
      omega
theorem pw_neg (F : Int → Int) (m a e : Int) : pwF F m (-a) e = - pwF F m a (e + a * m) := by
  have h := pw_add F m (-a) a e
  rw [Int.add_left_neg, pw_zero, Int.neg_mul, Int.sub_neg] at h
  omega
theorem pw_one (F : Int → Int) (m e : Int) : pwF F m 1 e = F e := by
  show 0 + F (e - ((0 : Nat) : Int) * m) = F e
  rw [Int.zero_add, show e - ((0 : Nat) : Int) * m = e by omega]
theorem pw_congr {F G : Int → Int} (h : ∀ x, F x = G x) (m c e : Int) : pwF F m c e = pwF G m c e := by
  rw [show F = G from funext h]
theorem pw_mod {q : Int} {F G : Int → Int} (h : ∀ x, F x % q = G x % q) (m : Int) : ∀ c e : Int, pwF F m c e % q = pwF G m c e % q := by
  intro c
  refine int_ind (P := fun c => ∀ e, pwF F m c e % q = pwF G m c e % q) (fun e => rfl) (fun c => ?_) c
  constructor
  · intro k e
    rw [pw_succ, pw_succ, Int.add_emod, k e, h, ← Int.add_emod]
  · intro k e
    have e1 := k e
    rw [pw_succ, pw_succ] at e1
    have e2 : pwF F m c e = pwF F m c e + F (e - c * m) - F (e - c * m) := by omega
    have e3 : pwF G m c e = pwF G m c e + G (e - c * m) - G (e - c * m) := by omega
    rw [e2, e3, Int.sub_emod, e1, h (e - c * m), ← Int.sub_emod]
/-- the inverse's rounds are rounds backwards -/
theorem pw_inv (F : Int → Int) (m : Int) : ∀ c e : Int, pwF (fun x => F (x + m) * -1) (-m) c e = pwF F m (-c) e := by
  intro c
  refine int_ind (P := fun c => ∀ e, pwF (fun x => F (x + m) * -1) (-m) c e = pwF F m (-c) e) (fun e => rfl) (fun c => ?_) c
  have key : ∀ e, pwF F m (-c) e = pwF F m (-(c + 1)) e + F (e + c * m + m) := fun e => by
    have h := pw_succ F m (-(c + 1)) e
    rw [show -(c + 1) + 1 = -c by omega, Int.neg_mul, Int.sub_neg, Int.add_mul, Int.one_mul, ← Int.add_assoc] at h
    exact h
  have k2 : ∀ e, F (e - c * -m + m) * -1 = - F (e + c * m + m) := fun e => by
    rw [show e - c * -m + m = e + c * m + m by rw [Int.mul_neg]; omega]
    omega
  constructor
  · intro h e
    rw [pw_succ, h e, k2, key e]
    omega
  · intro h e
    have h' := h e
    rw [pw_succ, k2] at h'
    rw [key e]
    omega
theorem pw_mul (F : Int → Int) (m a : Int) : ∀ b e : Int, pwF (fun x => pwF F m a x) (a * m) b e = pwF F m (a * b) e := by
  intro b
  refine int_ind (P := fun b => ∀ e, pwF (fun x => pwF F m a x) (a * m) b e = pwF F m (a * b) e) (fun e => by rw [Int.mul_zero, pw_zero, pw_zero]) (fun c => ?_) b
  have key : ∀ e, pwF F m (a * (c + 1)) e = pwF F m (a * c) e + pwF F m a (e - c * (a * m)) := fun e => by
    rw [Int.mul_add, Int.mul_one, pw_add, show a * c * m = c * (a * m) by rw [Int.mul_comm a c, Int.mul_assoc]]
  constructor
  · intro h e
    rw [pw_succ, h e, key e]
  · intro h e
    have h' := h e
    rw [pw_succ, key e] at h'
    omega
/-- led by another effect -/
theorem pw_led (F G : Int → Int) (m n : Int) : ∀ b e : Int, pwF (fun x => G (x + n) * -1 + F (x + n) + G (x + n - m)) m b e = G (e + n) * -1 + pwF F m b (e + n) + G (e + n - b * m) := by
  intro b
  refine int_ind (P := fun b => ∀ e, pwF (fun x => G (x + n) * -1 + F (x + n) + G (x + n - m)) m b e = G (e + n) * -1 + pwF F m b (e + n) + G (e + n - b * m)) (fun e => by rw [pw_zero, pw_zero, Int.zero_mul, Int.sub_zero]; omega) (fun c => ?_) b
  have key : ∀ e, G (e - c * m + n) * -1 + F (e - c * m + n) + G (e - c * m + n - m) = G (e + n - c * m) * -1 + F (e + n - c * m) + G (e + n - (c + 1) * m) := fun e => by
    rw [show e - c * m + n = e + n - c * m by omega, show e + n - c * m - m = e + n - (c + 1) * m by rw [Int.add_mul]; omega]
  constructor
  · intro h e
    rw [pw_succ, pw_succ, h e, key]
    omega
  · intro h e
    have h' := h e
    rw [pw_succ, pw_succ, key] at h'
    omega
theorem conv_rounds (f : Pol) (m : Int) : ∀ (n : Nat) (e : Int), conv f (cf (rounds n m)) e = upF (cf f) m n e
  | 0, e => (conv_congr (G' := fun _ => 0) (fun _ => rfl) f e).trans (conv_zero f e)
  | n + 1, e => by
    have h : ∀ x, cf (rounds (n + 1) m) x = (if ((n : Int) * m, (1 : Int)).1 = x then ((n : Int) * m, (1 : Int)).2 else 0) + cf (rounds n m) x := fun x => by
      rw [rounds_succ, cf_append, cf_cons, cf_nil]
      omega
    rw [conv_congr h, conv_snd, conv_rounds f m n e]
    show 1 * cf f (e - (n : Int) * m) + upF (cf f) m n e = upF (cf f) m n e + cf f (e - (n : Int) * m)
    omega
theorem pw_rounds (f : Pol) (m : Int) {c : Int} (h : 0 ≤ c) (e : Int) : conv f (cf (rounds c.toNat m)) e = pwF (cf f) m c e := by
  obtain ⟨n, rfl⟩ : ∃ n : Nat, c = (n : Int) := ⟨c.toNat, by omega⟩
  rw [Int.toNat_natCast, conv_rounds]
  rfl
theorem up_far {F : Int → Int} {m e : Int} : ∀ n : Nat, (∀ k : Int, k.natAbs ≤ n → F (e - k * m) = 0) → upF F m n e = 0
  | 0, _ => rfl
  | n + 1, h => by
    show upF F m n e + F (e - (n : Int) * m) = 0
    rw [up_far n fun k hk => h k (by omega), h (n : Int) (by omega)]
    rfl
theorem dn_far {F : Int → Int} {m e : Int} : ∀ n : Nat, (∀ k : Int, k.natAbs ≤ n → F (e - k * m) = 0) → dnF F m n e = 0
  | 0, _ => rfl
  | n + 1, h => by
    show dnF F m n e + F (e + ((n : Int) + 1) * m) = 0
    have h1 := h (-((n : Int) + 1)) (by omega)
    rw [Int.neg_mul, Int.sub_neg] at h1
    rw [dn_far n fun k hk => h k (by omega), h1]
    rfl
theorem pw_far {F : Int → Int} {m e : Int} : ∀ c : Int, (∀ k : Int, k.natAbs ≤ c.natAbs → F (e - k * m) = 0) → pwF F m c e = 0
  | .ofNat n, h => up_far n h
  | .negSucc n, h => by
    show - dnF F m (n + 1) e = 0
    rw [dn_far (n + 1) h]
    rfl
theorem pw_flat (F : Int → Int) (e : Int) : ∀ c : Int, pwF F 0 c e = c * F e := by
  intro c
  refine int_ind (P := fun c => pwF F 0 c e = c * F e) (by rw [pw_zero, Int.zero_mul]) (fun c => ?_) c
  rw [pw_succ, Int.mul_zero, Int.sub_zero, Int.add_mul, Int.one_mul]
  omega
end DR
/-! What the laws of one document share: a few rules more of the hand layer, and polynomials in the heap. -/
namespace DR
open PySem PySem.Spec PyProof.Rows L2
section
variable {P : Program} {w : World} {A : Around} {E : Value → Shared → Prop}
/-- the second half of `sorted`: the members stand gathered and are ints; they go into a new list, and that is put in order -/
theorem order_ints {now : Shared} {items : List Value} {nums : List Int} {after : PySem.Fin → Shared → Prop} (whole : IntsAre items nums) (room : items.length ≤ sizeLine)
    (next : ∀ (g : Heap) (arr : Array Value) (stamp : Nat) (ys : List Int), (∀ b u, now.heap.get? b = some u → g.get? b = some u) → g.get? now.heap.objs.size = some (seqObj "list" arr stamp) → IntsAre arr.toList ys →
      ys.Perm nums → ys.Pairwise (· ≤ ·) → after (.done (.ret (.ref now.heap.objs.size))) { now with heap := g }) :
    wpAny (model P w) A (do let l ← newList items; let _ ← holding [l] (call (.builtin "list.sort") [l] []); ret l) after E now := by
  have laid : (now.heap.push (seqObj "list" items.toArray 0)).get? now.heap.objs.size = some (seqObj "list" items.toArray 0) := Heap.get?_push_size _ rfl
  have done : ∀ out : List Value, SrtO.Srtd SrtO.ltIv out → SrtO.Stb SrtO.ltIv out items →
      after (.done (.ret (.ref now.heap.objs.size))) { now with heap := sortedHeap (now.heap.push (seqObj "list" items.toArray 0)) now.heap.objs.size items out.toArray } := fun out asc same => by
    obtain ⟨numb, perm, up⟩ := SrtO.ints_out whole asc same
    obtain ⟨stamp, there⟩ := sortedHeap_at (vs := items) (out := out.toArray) laid
    refine next _ out.toArray stamp (out.map SrtO.iv) (fun b u old => ?_) there (by simpa using numb) perm up
    have below : b < now.heap.objs.size := Heap.lt_size old
    have wider : b < (now.heap.push (seqObj "list" items.toArray 0)).objs.size := by
      rw [size_push']
      exact Nat.lt_succ_of_lt below
    exact (sortedHeap_old (Nat.ne_of_lt below) wider).trans (Heap.get?_push_of_some _ old)
  have sorts := SrtO.list_sort_ord (prog := P) (w := w) (A := A.in1) (E := E) (s := { now with heap := now.heap.push (seqObj "list" items.toArray 0) }) (R := fun r s' => r = .done (.ret .none) ∧ ∃ out : List Value, SrtO.Srtd SrtO.ltIv out ∧ SrtO.Stb SrtO.ltIv out items ∧ s' = { now with heap := sortedHeap (now.heap.push (seqObj "list" items.toArray 0)) now.heap.objs.size items out.toArray })
    SrtO.swo_int laid room (fun two => SrtO.ints_sortable whole two) fun out asc same => ⟨rfl, out, asc, same, rfl⟩
  refine wpAny_bind (wpAny_newList (wpAny_bind (wpAny_holding ?_)) room)
  refine wpAny_call_entry slot_list_sort ⟨_, laid, rfl⟩ entry_list_sort ?_ (args_list_sort _)
  refine wpAny_mono sorts (fun r s' told => ?_) fun e s' told => told
  obtain ⟨rfl, out, asc, same, rfl⟩ := told
  exact ⟨_, rfl, wpAny_pure (done out asc same)⟩
end
section
variable {X : Cx}
/-- sorted(d), the keys ints, however many -/
theorem call_sortedDA (calm : X.calm = true) : CallR X (.builtin "sorted") (fun given G K => ∃ (d : Addr) (kvs : List (Key × V)) (ks : List Int), given = [.ref d] ∧ Rd G d (.dK kvs) ∧ kvs.map (·.1) = ks.map Sum.inl ∧
    ∀ (ys : List Int) (p : Addr), ys.Perm ks → (ys.Pairwise fun u v => u ≤ v) → G p = none → K (.ref p) (upd G p (.lst (ys.map V.int)))) := by
  intro pins now σ G given us K I r told
  obtain ⟨d, kvs, ks, rfl, hd, hks, told⟩ := told
  rw [Vals.ref1 r]
  obtain ⟨few, loose, pairs, rel, dd⟩ := dk_rd I.hok hd
  obtain ⟨ep, at_d⟩ := dd.dictAt
  have keys : pairs.map (·.1) = ks.map Sum.inl := hks ▸ rel.keys.symm
  have len : pairs.length = ks.length := by simpa using congrArg List.length keys
  have lkv : kvs.length = ks.length := by simpa using congrArg List.length hks
  have fits : pairs.length ≤ sizeLine := by
    rw [len, ← lkv]
    exact few
  refine Calls.call_function_entry kind_sorted plain_sorted entry_sorted (args_sorted1 _) ?_
  unfold Builtin.«sorted»
  refine wpAny_bind (m := checkCount "sorted" 1 1 _) (wpAny_pure (wpAny_bind (PySem.W.kdu_collect (A := X.A.in1) (PySem.W.kdl_dict (knd := mixKind X.prog X.w) (kvs := pairs) (ep := ep) loose) (I.ok.hd calm) at_d fits fun g1 toks acc kept each => ?_)))
  have lacc : acc.toList.length = ks.length := by rw [Array.length_toList, each.1, len]
  have whole : IntsAre acc.toList ks := ints_each lacc fun j v e => by
    obtain ⟨k, _, here, like⟩ := each.2 j v (by simpa using e)
    have key : (ks.map Sum.inl)[j]? = some k := by rw [← keys, List.getElem?_map, here]; rfl
    rw [List.getElem?_map] at key
    obtain ⟨y, hy, rfl⟩ := Option.map_eq_some_iff.mp key
    rcases keyIs_shape (show keyIs (Sum.inl y) v = true from like) with ⟨i, t, ek, ev⟩ | ⟨_, _, ek, _⟩
    · cases ek
      exact ⟨y, t, hy, ev⟩
    · cases ek
  have I1 : Inv X pins σ G { now with heap := g1, toks := toks } := I.kept kept
  refine order_ints whole (by rw [lacc, ← lkv]; exact few) fun g arr stamp ys old there numb perm up => ?_
  have fit : (ys.map V.int).length ≤ sizeLine := by
    rw [List.length_map, perm.length_eq, ← lkv]
    exact few
  exact ⟨_, rfl, .ref g1.objs.size, _, I1.laid (t' := toks) (o := .lst (ys.map V.int)) old (Nat.le_refl _) ⟨fit, arr.toList, stamp, vals_of_ints numb, there⟩, rfl, told ys _ perm up (I1.hok.fresh (Nat.le_refl _))⟩
/-- repr(x), x data of any depth, where no other repr runs -/
theorem call_reprD (hg : X.A.guards = some []) (hu : X.A.units + 100 < cLine) : CallR X (.builtin "repr") (fun xs H Q => ∃ (x : V) (d : PyData), xs = [x] ∧ (∃ a, x = .ref a) ∧ Dp X.K H x d ∧ d.showable = true ∧ d.hasDict = false ∧ d.depth ≤ 64 ∧ d.shown.length ≤ sizeLine ∧ Q (.str d.shown) H) := by
  intro pins s σ H xs us Q I r h
  obtain ⟨x, d, rfl, ⟨a, rfl⟩, hd, hs, hn, hz, hl, q⟩ := h
  obtain ⟨u, rfl, rx⟩ := vals1 r
  cases rx
  obtain ⟨as, rd⟩ := Dp.reads I d _ _ hd rfl
  refine repr_of_reads' rd hs (fun z => absurd z (by rw [hn]; exact Bool.false_ne_true)) hg (by omega) (fun _ _ e => e) (fun h' t tk hk => ?_) hl
  exact ⟨.str d.shown, H, I.kept hk, ⟨t, rfl⟩, q⟩
end
end DR
namespace DR
open PySem PySem.Spec PyProof.Rows L2
/-! ### the law's own def is called once, by the caller alone: there no repr runs (guards), which FnOk can't say -/
/-- a promise kept where the law is called -/
def Kept (P : Program) (w : World) (K : PySem.W.Frag) (mg : Str → Option Value) (base : Heap) (f : Addr) (fd : FuncData) (ps : List Str) (sp : Sp) : Prop :=
  ∀ (s : Shared) (H : Hp) (args : Args) (us : List Value) (vs : List V) (Q : VK) (E : XK), Env0 P w K mg base callerA [] s H → BindsTo s fd args (ps.zip us) →
    Vals vs us → sp vs H Q E → codeAny (model P w) callerA (.call (.ref f) args) (CR CX0 [] P w H s Q E) s
theorem kept_of {P : Program} {w : World} {K : PySem.W.Frag} {mg : Str → Option Value} {base : Heap} {x qual : Str} {st : Stmt} {f : Addr} {fd : FuncData} {N ps : List Str} {k : Nat} {sp : Sp} (F : Fun K x qual st f fd) (S : FnScope N ps (defScope st))
    (len : ∀ vs H Q E, sp vs H Q E → vs.length = ps.length) (room : Room (k + 1) callerA)
    (body : ∀ (cdv : Value) (s : Shared) (H : Hp) (vs : List V) (Q : VK) (E : XK), Room k (callerA.deeper (envOfC qual (defScope st) s.heap.objs.size f cdv)) → sp vs H Q E →
      ∃ t, PSs (cxOf CX0 P w K mg base N qual (defScope st) f cdv callerA [] s H E).nox (defBody st) t ∧ t { nx := fun _ H' => Q .non H', rt := Q } (start N vs) H) : Kept P w K mg base f fd ps sp := by
  obtain ⟨_, _, _, _, _, _, cdv, _, _, rfl, found, code⟩ := F.ex
  intro s H args us vs Q E e0 hb r hsp
  have hl := len _ _ _ _ hsp
  have kin : K.In s.heap := e0.mod.kin.keeps fun b o e => (e0.bs b o e).1
  have free := e0.mod.nolimit.keeps fun b o e => (e0.bs b o e).1
  have kinds : ∀ y ∈ ps.zip us, (defScope st).names.lookup y.1 = some .local ∨ ((defScope st).names.lookup y.1 = some .cell ∧ ((cellsFrom (s.heap.objs.size + 1) (defScope st).names []).lookup y.1).isSome = true) := by
    rintro ⟨n, v⟩ hy
    exact (S.par n (List.of_mem_zip hy).1).imp_right fun q => ⟨q, PySem.W.cellsFrom_some _ _ _ (.inl q)⟩
  refine codeAny_call_function room.depth (kin _ _ found) rfl S.co S.gen rfl (PySem.W.codeRec_of kin code) (hb _ _ _ _ ?_)
  refine wpAny_newFunctionEnv_cells S.kind kinds fun env he s1 z => ?_
  subst he
  refine ⟨free.keeps z.toInCall.keep, codeAny_func ?_⟩
  obtain ⟨t, ht, hq⟩ := body cdv s H vs Q E (room.deeper _) hsp
  have I : Inv (cxOf CX0 P w K mg base N qual (defScope st) f cdv callerA [] s H E) [] (start N vs) H s1 := inv_start S room.hd e0 hl r z
  refine wpAny_mono (ht.nox.run [] s1 (start N vs) H _ I hq) (fun fl s2 hs => ?_) fun e s2 hs => hs
  cases fl with
  | ret u =>
    obtain ⟨v, _, H', J, rv, q⟩ := hs
    exact ⟨v, H', J.os, J.bare, J.base, J.hok, rv, q⟩
  | next =>
    obtain ⟨_, H', J, q⟩ := hs
    exact ⟨.non, H', J.os, J.bare, J.base, J.hok, rfl, q⟩
  | brk => exact hs.elim fun _ z => z.elim fun _ y => y.2.elim
  | cont => exact hs.elim fun _ z => z.elim fun _ y => y.2.elim
/-- what the judge asks of the law's call -/
abbrev Passed (before : Shared) : Except Value Flow → Shared → Prop := fun r s' => r = .ok (.ret (.bool true)) ∧ OldK before.heap s'.heap ∧ s'.os = before.os ∧ AllBare s'.gens
/-- the names of the module and of the builtins, as they stand before the call -/
structure Stand (K : PySem.W.Frag) (mg mb : Str → Option Value) (before : Shared) : Prop where
  kin : K.In before.heap
  mod : before.heap.Ns mainGlobals mg
  std : before.heap.Ns builtinsNs mb
  boot : ∀ x : Str, x ≠ "__name__" → mb x = bootBuiltins x
  free : before.heap.NoLimit
  none : before.gens = #[]
theorem law_kept {P : Program} {w : World} {K : PySem.W.Frag} {mg mb : Str → Option Value} {fa a : Addr} {fd : FuncData} {x : Str} {sp : Sp} {s₁ : Shared} {vs : List Value} {ns : List Int}
    (W : Stand K mg mb s₁)
    (ha : s₁.heap.get? a = some { cls := .type "list", data := .seq vs.toArray }) (hi : IntsAre vs ns) (hl : ns.length ≤ sizeLine)
    (F : ∀ base : Heap, K.In base → base.Ns mainGlobals mg → Kept P w K mg base fa fd [x] sp) (hbind : ∀ (s : Shared) (u : Value), BindsTo s fd ⟨[u], []⟩ [(x, u)])
    (hsp : ∀ H : Hp, Only H → SqL K H a (ns.map V.int) → sp [.ref a] H (fun v _ => v = .bl true) fun _ _ _ => False) :
    codeAny (model P w) callerA (.call (.ref fa) ⟨[.ref a], []⟩) (Passed s₁) s₁ := by
  have rv := vals_ints hi
  have core : ∀ H : Hp, Only H → SqL K H a (ns.map V.int) → HOk P w H s₁.heap → (∀ b, b ≠ a → H b = none) → (H a = none ∨ K.lookup a = none) →
      codeAny (model P w) callerA (.call (.ref fa) ⟨[.ref a], []⟩) (Passed s₁) s₁ := by
    intro H hO hS ok Hn hK
    have up : ∀ {b : Addr} {o : Obj}, H b = none → s₁.heap.get? b = some o → (hidT s₁.heap H).get? b = some o := fun q e => hidT_get e q
    have ns' : ∀ {b : Addr} {m : Str → Option Value}, s₁.heap.Ns b m → (hidT s₁.heap H).Ns b m := fun {b m} h => by
      obtain ⟨o, es, ep, e, d, r⟩ := h
      refine ⟨o, es, ep, up (Hn b fun q => ?_) e, d, r⟩
      subst q
      rw [ha] at e
      cases e
      exact nomatch d
    have kin : K.In (hidT s₁.heap H) := fun b o e => by
      refine up ?_ (W.kin b o e)
      by_cases q : b = a
      · rcases hK with z | z
        · rw [q]
          exact z
        · rw [q, z] at e
          cases e
      · exact Hn b q
    have M : Mod K mg (hidT s₁.heap H) := ⟨kin, ns' W.mod, ⟨mb, ns' W.std, W.boot⟩, W.free.elim fun mc z => ⟨mc, ns' z.1, z.2⟩⟩
    have e0 : Env0 P w K mg (hidT s₁.heap H) callerA [] s₁ H := ⟨rfl, M, fun b o e => of_hidT e, Nat.le_of_eq (hidT_size _ _), trivial, fun b z => absurd (show b ∈ ([] : List Addr) from z) (by simp), ok, .of_eq W.none⟩
    refine codeAny_mono (F _ kin (ns' W.mod) s₁ H _ [.ref a] [.ref a] _ _ e0 (hbind s₁ (.ref a)) (.cons rfl .nil) (hsp H hO hS)) fun r s' h => ?_
    cases r with
    | error e => exact False.elim h
    | ok fl =>
      cases fl with
      | ret u =>
        obtain ⟨v, H', os, bare, un, ok', r', q⟩ := h
        obtain rfl : v = .bl true := q
        cases r'
        refine ⟨rfl, OldK.of_keep ?_, os, bare⟩
        intro b o e
        obtain z | ⟨ob, xs, z⟩ := hO b
        · exact un.keep b o e z (fun y => absurd (show b ∈ ([] : List Addr) from y) (by simp)) (by simp)
        · have z1 := (ok _ _ z).1
          have z2 := (ok' _ _ (un.frzs _ _ _ z)).1
          rw [e] at z1
          cases z1
          exact z2
      | next => exact False.elim h
      | brk => exact False.elim h
      | cont => exact False.elim h
  cases hk : K.lookup a with
  | none =>
    refine core (fun b => if b = a then some (.frz { cls := .type "list", data := .seq vs.toArray } (.lst (ns.map V.int))) else none) (fun b => ?_) (.inl (.inr ⟨_, if_pos rfl⟩)) (fun b o e => ?_) (fun b e => if_neg e) (.inr hk)
    · by_cases q : b = a
      · exact .inr ⟨_, _, if_pos q⟩
      · exact .inl (if_neg q)
    · by_cases q : b = a
      · have e' := (if_pos q).symm.trans e
        cases e'
        subst q
        have fit : (ns.map V.int).length ≤ sizeLine := (List.length_map _).symm ▸ hl
        exact ⟨ha, fit, vs, _, rv, ha⟩
      · have e' := (if_neg q).symm.trans e
        cases e'
  | some o =>
    have e := W.kin a o hk
    rw [ha] at e
    cases e
    refine core (fun _ => none) (fun _ => .inl rfl) (.inr ⟨_, vs.toArray, _, hk, rfl, rfl, rfl, ?_, by simpa using rv⟩) (fun b u z => ?_) (fun b _ => rfl) (.inl rfl)
    · simpa [hi.length] using hl
    · have z' : (none : Option HO) = some u := z
      cases z'
/-- the end: the law's promise, kept where it is called, closes the walk -/
theorem walk_kept {l : PySem.W.OpenLaw} {q : Program} {loose : List Str} {XP : (Str → Option Value) → Heap → Prop} {YP : World → Heap → Prop} {d : DefRec} {K : Params → PySem.W.Frag} {sp : PySem.W.Frag → Sp} {x : Str}
    (hn : l.most = some 63) (hdf : d.params.defaults = []) (hY : ∀ (w : World) (h : Heap), YP w h → (K w.params).In h)
    (F : ∀ (w : World) (mg : Str → Option Value) (at_ : Addr) (g : Heap), (K w.params).In g → g.Ns mainGlobals mg → mg d.name = some (.ref at_) →
      ∃ fd : FuncData, (∀ (s : Shared) (u : Value), BindsTo s fd ⟨[u], []⟩ [(x, u)]) ∧ ∀ base : Heap, (K w.params).In base → base.Ns mainGlobals mg → Kept l.prog w (K w.params) mg base at_ fd [x] (sp (K w.params)))
    (hsp : ∀ (K : PySem.W.Frag) (H : Hp) (a : Addr) (ns : List Int), ns.length ≤ 63 → SqL K H a (ns.map V.int) → sp K [.ref a] H (fun v _ => v = .bl true) fun _ _ _ => False) :
    PySem.W.WalkO q loose XP YP l.row.toRowW d [] (fun f vs => PySem.call f vs) := by
  refine Att.attach_call hn hdf ?_
  intro w _ _ mg _ fa _ _ _ _ a _ ns G Y _ _ _ hmg hobj hints hlen hg
  obtain ⟨fd, hb, hF⟩ := F w mg fa _ (hY w _ Y) G.T.g hmg
  exact law_kept ⟨hY w _ Y, G.T.g, G.T.b, G.T.builtins, G.T.nolimit, hg⟩ hobj hints (Nat.le_trans hlen (by decide)) hF hb fun H _ hS => hsp _ H a ns hlen hS
end DR
namespace DR
open PySem PySem.Spec PyProof.Rows L2
/-! ### heaps -/
theorem same_new {H : Hp} {p : Addr} {o : HO} (h : H p = none) : Same H (upd H p o) := fun b u e => by
  rw [upd_ne (ne_of_none e h)]
  exact e
/-- what H does not know may change -/
theorem same_mut {H H' : Hp} {p : Addr} {o : HO} (s : Same H H') (h : H p = none) : Same H (upd H' p o) := fun b u e => by
  rw [upd_ne (ne_of_none e h)]
  exact s b u e
theorem same_t {K : PySem.W.Frag} {H H' : Hp} {a : Addr} {xs : List V} (e : Same H H') (h : SqT K H a xs) : SqT K H' a xs := by
  match h with
  | .inl (.inl z) => exact .inl (.inl (e _ _ z))
  | .inl (.inr ⟨u, z⟩) => exact .inl (.inr ⟨u, e _ _ z⟩)
  | .inr z => exact .inr z
theorem same_l {K : PySem.W.Frag} {H H' : Hp} {a : Addr} {xs : List V} (e : Same H H') (h : SqL K H a xs) : SqL K H' a xs := e.seq h
/-- all but what stands at p stays -/
def Kp (p : Addr) (H H' : Hp) : Prop := ∀ b o, b ≠ p → H b = some o → H' b = some o
theorem Kp.refl (p : Addr) (H : Hp) : Kp p H H := fun _ _ _ e => e
theorem Kp.trans {p : Addr} {H H1 H2 : Hp} (a : Kp p H H1) (b : Kp p H1 H2) : Kp p H H2 := fun c o n e => b c o n (a c o n e)
theorem Same.kp {p : Addr} {H H' : Hp} (s : Same H H') : Kp p H H' := fun b o _ e => s b o e
theorem Kp.upd {p : Addr} {H H' : Hp} {o : HO} (k : Kp p H H') : Kp p H (upd H' p o) := fun b u n e => by
  rw [upd_ne n]
  exact k b u n e
/-- tuples (and what is locked) stay: so every tuple of tuples and numbers does -/
structure Tp (H H' : Hp) : Prop where
  tup : ∀ b xs, H b = some (.tup xs) → H' b = some (.tup xs)
  frz : ∀ b o u, H b = some (.frz o u) → H' b = some (.frz o u)
theorem Same.tp {H H' : Hp} (s : Same H H') : Tp H H' := ⟨fun b xs e => s b _ e, fun b o u e => s b _ e⟩
theorem Tp.refl (H : Hp) : Tp H H := ⟨fun _ _ e => e, fun _ _ _ e => e⟩
theorem Tp.trans {H H1 H2 : Hp} (a : Tp H H1) (b : Tp H1 H2) : Tp H H2 := ⟨fun c xs e => b.tup c xs (a.tup c xs e), fun c o u e => b.frz c o u (a.frz c o u e)⟩
theorem Kp.tp {p : Addr} {H H' : Hp} {kvs : List (Key × V)} (k : Kp p H H') (h : H p = some (.dK kvs)) : Tp H H' :=
  ⟨fun b xs e => k b _ (ne_of e h (by intro z; cases z)) e, fun b o u e => k b _ (ne_of e h (by intro z; cases z)) e⟩
theorem tp_t {K : PySem.W.Frag} {H H' : Hp} {a : Addr} {xs : List V} (e : Tp H H') (h : SqT K H a xs) : SqT K H' a xs := by
  rcases h with (h | ⟨o, h⟩) | h
  · exact .inl (.inl (e.tup _ _ h))
  · exact .inl (.inr ⟨o, e.frz _ _ _ h⟩)
  · exact .inr h
/-- a list, a dict changes or a new thing comes -/
theorem tp_lst {H : Hp} {p : Addr} {xs : List V} {o : HO} (h : H p = some (.lst xs)) : Tp H (upd H p o) :=
  ⟨fun b ys e => by rw [upd_ne (ne_of e h (by intro z; cases z))]; exact e, fun b u v e => by rw [upd_ne (ne_of e h (by intro z; cases z))]; exact e⟩
theorem tp_dK {H : Hp} {p : Addr} {xs : List (Key × V)} {o : HO} (h : H p = some (.dK xs)) : Tp H (upd H p o) :=
  ⟨fun b ys e => by rw [upd_ne (ne_of e h (by intro z; cases z))]; exact e, fun b u v e => by rw [upd_ne (ne_of e h (by intro z; cases z))]; exact e⟩
theorem tp_new {H : Hp} {p : Addr} {o : HO} (h : H p = none) : Tp H (upd H p o) := Same.tp (same_new h)
/-! ### polynomials: tuples (or lists) of pairs of ints -/
def IsPr (K : PySem.W.Frag) (H : Hp) (x : V) (t : Int × Int) : Prop := ∃ a, x = V.ref a ∧ SqT K H a [.int t.1, .int t.2]
abbrev Prs (K : PySem.W.Frag) (H : Hp) : List V → Pol → Prop := Paired (IsPr K H)
def TPol (K : PySem.W.Frag) (H : Hp) (v : V) (f : Pol) : Prop := ∃ a xs, v = .ref a ∧ SqT K H a xs ∧ Prs K H xs f
def LPol (K : PySem.W.Frag) (H : Hp) (v : V) (f : Pol) : Prop := ∃ a xs, v = .ref a ∧ SqL K H a xs ∧ Prs K H xs f
section
variable {K : PySem.W.Frag} {H H' : Hp} {v x : V} {xs ys : List V} {f g : Pol} {t : Int × Int}
theorem IsPr.tp (e : Tp H H') (h : IsPr K H x t) : IsPr K H' x t := h.elim fun a z => ⟨a, z.1, tp_t e z.2⟩
theorem Prs.tp (e : Tp H H') : ∀ {xs : List V} {f : Pol}, Prs K H xs f → Prs K H' xs f
  | _, _, .nil => .nil
  | _, _, .cons r q => .cons (r.tp e) (Prs.tp e q)
theorem TPol.tp (e : Tp H H') (h : TPol K H v f) : TPol K H' v f := by
  obtain ⟨a, xs, rfl, hs, hp⟩ := h
  exact ⟨a, xs, rfl, tp_t e hs, Prs.tp e hp⟩
theorem LPol.same (e : Same H H') (h : LPol K H v f) : LPol K H' v f := by
  obtain ⟨a, xs, rfl, hs, hp⟩ := h
  exact ⟨a, xs, rfl, e.seq hs, Prs.tp (Same.tp e) hp⟩
theorem Prs.snoc : ∀ {xs : List V} {f : Pol}, Prs K H xs f → IsPr K H x t → Prs K H (xs ++ [x]) (f ++ [t])
  | _, _, .nil, h => .cons h .nil
  | _, _, .cons r q, h => .cons r (Prs.snoc q h)
theorem Prs.app : ∀ {xs : List V} {f : Pol}, Prs K H xs f → Prs K H ys g → Prs K H (xs ++ ys) (f ++ g)
  | _, _, .nil, h => h
  | _, _, .cons r q, h => .cons r (Prs.app q h)
theorem Prs.len (h : Prs K H xs f) : xs.length = f.length := Paired.length h
theorem Prs.get : ∀ {xs : List V} {f : Pol} {i : Nat} {x : V}, Prs K H xs f → xs[i]? = some x → ∃ t, f[i]? = some t ∧ IsPr K H x t
  | _, _, _, _, .nil, e => by simp at e
  | _, _, 0, _, .cons r _, e => by
    simp at e
    subst e
    exact ⟨_, rfl, r⟩
  | _, _, i + 1, x, .cons _ q, e => by
    obtain ⟨t, h1, h2⟩ := Prs.get (i := i) (x := x) q (by simpa using e)
    exact ⟨t, by simpa using h1, h2⟩
theorem isPr_new {p : Addr} {t : Int × Int} : IsPr K (upd H p (.tup [.int t.1, .int t.2])) (.ref p) t := ⟨p, rfl, SqT.of upd_same⟩
/-- as data -/
def pr (t : Int × Int) : PyData := .tuple [.int t.1, .int t.2]
def pd (f : Pol) : PyData := .tuple (f.map pr)
theorem IsPr.dp (h : IsPr K H x t) : Dp K H x (pr t) := by
  obtain ⟨a, rfl, hs⟩ := h
  exact .tup hs (.cons (.int _) (.cons (.int _) .nil))
theorem Prs.dp : ∀ {xs : List V} {f : Pol}, Prs K H xs f → DpAll K H xs (f.map pr)
  | _, _, .nil => .nil
  | _, _, .cons r q => .cons r.dp (Prs.dp q)
theorem TPol.dp (h : TPol K H v f) : Dp K H v (pd f) := by
  obtain ⟨a, xs, rfl, hs, hp⟩ := h
  exact .tup hs hp.dp
end
/-! ### how they are shown -/
theorem int_shows {i : Int} (h : i.natAbs < 10 ^ 100) : (PyData.int i).showable = true ∧ ((PyData.int i).shown).length ≤ 101 := by
  refine ⟨decide_eq_true (log2_small (Nat.lt_of_lt_of_le h (by decide +kernel))), ?_⟩
  have e := int_text_length_le10 (k := 100) (by decide) h
  show (Str.ofString (toString i)).length ≤ 101
  rw [PySem.ofString_length]
  exact e
theorem pr_shows {t : Int × Int} (h1 : t.1.natAbs < 10 ^ 100) (h2 : t.2.natAbs < 10 ^ 100) : (pr t).showable = true ∧ (pr t).shown.length ≤ 209 := by
  obtain ⟨a1, a2⟩ := int_shows h1
  obtain ⟨b1, b2⟩ := int_shows h2
  refine ⟨?_, ?_⟩
  · show ((PyData.int t.1).showable && ((PyData.int t.2).showable && true)) = true
    rw [a1, b1]
    rfl
  · show (tupleText [(PyData.int t.1).shown, (PyData.int t.2).shown]).length ≤ 209
    have := tupleText_len_le [(PyData.int t.1).shown, (PyData.int t.2).shown]
    simp only [List.map_cons, List.map_nil, List.sum_cons, List.sum_nil, List.length_cons, List.length_nil] at this
    omega
/-- small enough to be shown -/
structure Sm (f : Pol) : Prop where
  len : f.length ≤ 50000
  abs : ∀ t ∈ f, t.1.natAbs < 10 ^ 100 ∧ t.2.natAbs < 10 ^ 100
theorem prs_shows : ∀ (f : Pol), (∀ t ∈ f, t.1.natAbs < 10 ^ 100 ∧ t.2.natAbs < 10 ^ 100) → PyData.showableAll (f.map pr) = true ∧ PyData.hasDictAll (f.map pr) = false ∧ PyData.depthAll (f.map pr) ≤ 1 ∧ ((PyData.shownAll (f.map pr)).map (·.length)).sum ≤ 209 * f.length ∧ (PyData.shownAll (f.map pr)).length = f.length
  | [], _ => ⟨rfl, rfl, Nat.zero_le _, Nat.zero_le _, rfl⟩
  | t :: r, h => by
    obtain ⟨a1, a2, a3, a4, a5⟩ := prs_shows r fun u hu => h u (List.mem_cons_of_mem _ hu)
    obtain ⟨b1, b2⟩ := pr_shows (h t List.mem_cons_self).1 (h t List.mem_cons_self).2
    refine ⟨?_, ?_, ?_, ?_, ?_⟩
    · show ((pr t).showable && PyData.showableAll (r.map pr)) = true
      rw [a1, b1]
      rfl
    · show ((pr t).hasDict || PyData.hasDictAll (r.map pr)) = false
      rw [a2]
      rfl
    · show max (pr t).depth (PyData.depthAll (r.map pr)) ≤ 1
      have : (pr t).depth = 1 := rfl
      omega
    · show ((pr t).shown.length :: ((PyData.shownAll (r.map pr)).map (·.length))).sum ≤ 209 * (r.length + 1)
      rw [List.sum_cons]
      omega
    · show (PyData.shownAll (r.map pr)).length + 1 = r.length + 1
      rw [a5]
theorem pd_shows {f : Pol} (h : Sm f) : (pd f).showable = true ∧ (pd f).hasDict = false ∧ (pd f).depth ≤ 2 ∧ (pd f).shown.length ≤ 211 * f.length + 3 := by
  obtain ⟨a1, a2, a3, a4, a5⟩ := prs_shows f h.abs
  refine ⟨a1, a2, ?_, ?_⟩
  · show PyData.depthAll (f.map pr) + 1 ≤ 2
    omega
  · show (tupleText (PyData.shownAll (f.map pr))).length ≤ _
    have := tupleText_len_le (PyData.shownAll (f.map pr))
    rw [a5] at this
    omega
/-- what repr asks -/
structure Shows (K : PySem.W.Frag) (H : Hp) (v : V) (d : PyData) : Prop where
  ref : ∃ a, v = .ref a
  dp : Dp K H v d
  s1 : d.showable = true
  s2 : d.hasDict = false
  s3 : d.depth ≤ 64
  s4 : d.shown.length ≤ sizeLine
theorem TPol.shows {K : PySem.W.Frag} {H : Hp} {v : V} {f : Pol} (h : TPol K H v f) (s : Sm f) : Shows K H v (pd f) := by
  obtain ⟨a1, a2, a3, a4⟩ := pd_shows s
  have := s.len
  refine ⟨h.elim fun a z => ⟨a, z.elim fun _ y => y.1⟩, h.dp, a1, a2, by omega, ?_⟩
  rw [sizeLine_eq]
  omega
theorem pr_lay (t : Int × Int) : (pr t).canLay0 = true := rfl
theorem prs_lay : ∀ f : Pol, PyData.canLayAll0 (f.map pr) = true ∧ PyData.depthAll (f.map pr) ≤ 1
  | [] => ⟨rfl, Nat.zero_le _⟩
  | t :: r => by
    obtain ⟨a, b⟩ := prs_lay r
    refine ⟨?_, ?_⟩
    · show ((pr t).canLay0 && PyData.canLayAll0 (r.map pr)) = true
      rw [a]
      rfl
    · show max (pr t).depth (PyData.depthAll (r.map pr)) ≤ 1
      have : (pr t).depth = 1 := rfl
      omega
theorem pd_shaped (f : Pol) : SeqAt.shaped (pd f) = true := by
  obtain ⟨a, b⟩ := prs_lay f
  show (PyData.canLayAll0 (f.map pr) && decide (PyData.depthAll (f.map pr) + 1 ≤ 64)) = true
  rw [a, decide_eq_true (by omega)]
  rfl
/-! ### dicts of ints -/
def kvOf (m : Pol) : List (Key × V) := m.map fun t => (Sum.inl t.1, V.int t.2)
theorem kv_keys (m : Pol) : (kvOf m).map (·.1) = (m.map (·.1)).map Sum.inl := by
  unfold kvOf
  rw [List.map_map, List.map_map]
  rfl
theorem kv_val : ∀ (m : Pol) (e : Int), (m.map (·.1)).Nodup → valV (kvOf m) (Sum.inl e) = if e ∈ m.map (·.1) then some (.int (cf m e)) else none
  | [], e, _ => by simp [kvOf, valV_nil]
  | t :: r, e, h => by
    have n := List.nodup_cons.mp (show (t.1 :: r.map (·.1)).Nodup from h)
    show valV ((Sum.inl t.1, V.int t.2) :: kvOf r) (Sum.inl e) = _
    by_cases q : t.1 = e
    · rw [valV_pos (by rw [q])]
      rw [if_pos (by rw [← q]; exact List.mem_cons_self), cf_cons, if_pos q, cf_out (f := r) (e := e) (by rw [← q]; exact n.1)]
      show some (V.int t.2) = some (V.int (t.2 + 0))
      rw [Int.add_zero]
    · rw [valV_neg (fun z => q (Sum.inl.inj z)), kv_val r e n.2, cf_cons, if_neg q, Int.zero_add]
      have : e ∈ (t :: r).map (·.1) ↔ e ∈ r.map (·.1) := by
        rw [List.map_cons, List.mem_cons]
        exact ⟨fun z => z.elim (fun y => absurd y.symm q) id, .inr⟩
      by_cases z : e ∈ r.map (·.1)
      · rw [if_pos z, if_pos (this.mpr z)]
      · rw [if_neg z, if_neg (fun y => z (this.mp y))]
theorem kv_getD (m : Pol) (e : Int) (h : (m.map (·.1)).Nodup) : (valV (kvOf m) (Sum.inl e)).getD (.int 0) = .int (cf m e) := by
  rw [kv_val m e h]
  by_cases z : e ∈ m.map (·.1)
  · rw [if_pos z]
    rfl
  · rw [if_neg z, cf_out z]
    rfl
theorem kv_has {m : Pol} {e : Int} (h : (m.map (·.1)).Nodup) (z : e ∈ m.map (·.1)) : valV (kvOf m) (Sum.inl e) = some (.int (cf m e)) := by
  rw [kv_val m e h, if_pos z]
theorem put_new : ∀ {m : Pol} {e v : Int}, e ∉ m.map (·.1) → put m e v = m ++ [(e, v)]
  | [], _, _, _ => rfl
  | t :: r, e, v, h => by
    have h1 : t.1 ≠ e := fun z => h (by rw [← z]; exact List.mem_cons_self)
    unfold put
    rw [if_neg h1, put_new fun z => h (List.mem_cons_of_mem _ z)]
    rfl
theorem put_old : ∀ {m : Pol} {e v : Int}, (m.map (·.1)).Nodup → e ∈ m.map (·.1) → put m e v = m.map fun t => if t.1 = e then (t.1, v) else t
  | [], _, _, _, h => absurd h List.not_mem_nil
  | t :: r, e, v, n, h => by
    have nn := List.nodup_cons.mp (show (t.1 :: r.map (·.1)).Nodup from n)
    unfold put
    by_cases q : t.1 = e
    · rw [if_pos q, List.map_cons, if_pos q, q]
      congr 1
      have : ∀ u ∈ r, (if u.1 = e then (u.1, v) else u) = id u := fun u hu => by
        rw [if_neg]
        · rfl
        · intro z
          exact nn.1 (by rw [q, ← z]; exact List.mem_map_of_mem hu)
      rw [List.map_congr_left this, List.map_id]
    · rw [if_neg q, List.map_cons, if_neg q, put_old nn.2]
      rcases List.mem_cons.mp (show e ∈ t.1 :: r.map (·.1) from h) with z | z
      · exact absurd z.symm q
      · exact z
theorem kv_put {m : Pol} {e v : Int} (n : (m.map (·.1)).Nodup) : putK (kvOf m) (Sum.inl e : Key) (.int v) = kvOf (put m e v) := by
  by_cases z : e ∈ m.map (·.1)
  · rw [put_old n z]
    unfold putK
    rw [valV_any, kv_has n z, if_pos (by rfl)]
    unfold kvOf
    rw [List.map_map, List.map_map]
    refine List.map_congr_left fun t _ => ?_
    show (if (Sum.inl t.1 : Key) = Sum.inl e then ((Sum.inl t.1 : Key), V.int v) else (Sum.inl t.1, V.int t.2)) = (Sum.inl (if t.1 = e then (t.1, v) else t).1, V.int (if t.1 = e then (t.1, v) else t).2)
    by_cases q : t.1 = e
    · rw [if_pos q, if_pos (by rw [q])]
    · rw [if_neg q, if_neg (fun y => q (Sum.inl.inj y))]
  · rw [putK_new _ (by rw [kv_val m e n, if_neg z]), put_new z]
    unfold kvOf
    rw [List.map_append]
    rfl
theorem kv_len (m : Pol) : (kvOf m).length = m.length := by
  unfold kvOf
  rw [List.length_map]
theorem sl_of {n : Nat} (h : n ≤ 1000000) : n ≤ sizeLine := by
  rw [sizeLine_eq]
  omega
theorem sl_lt {n : Nat} (h : n ≤ 1000000) : n < sizeLine := by
  rw [sizeLine_eq]
  omega
/-! ### a list of pairs that a comprehension, or a loop, makes -/
structure Grow (K : PySem.W.Frag) (H0 : Hp) (D : Addr) (f : Pol) (H : Hp) : Prop where
  same : Same H0 H
  ex : ∃ xs, H D = some (.lst xs) ∧ Prs K H xs f
section
variable {K : PySem.W.Frag} {H0 H : Hp} {D q : Addr} {f : Pol}
theorem Grow.start (n : H0 D = none) : Grow K H0 D [] (upd H0 D (.lst [])) := ⟨same_new n, [], upd_same, .nil⟩
theorem Grow.step (n : H0 D = none) (g : Grow K H0 D f H) (hq : H q = none) (e c : Int) (hl : f.length < 1000000) :
    ∃ acc, upd H q (.tup [.int e, .int c]) D = some (.lst acc) ∧ acc.length < sizeLine ∧ Grow K H0 D (f ++ [(e, c)]) (upd (upd H q (.tup [.int e, .int c])) D (.lst (acc ++ [.ref q]))) := by
  obtain ⟨s, xs, hD, hP⟩ := g
  have nDq : D ≠ q := ne_of_none hD hq
  have h1 : upd H q (.tup [.int e, .int c]) D = some (.lst xs) := by
    rw [upd_ne nDq]
    exact hD
  have t1 : Tp H (upd H q (.tup [.int e, .int c])) := tp_new hq
  have t2 : Tp (upd H q (.tup [.int e, .int c])) (upd (upd H q (.tup [.int e, .int c])) D (.lst (xs ++ [.ref q]))) := tp_lst h1
  refine ⟨xs, h1, sl_lt (by rw [hP.len]; omega), same_mut (s.trans (same_new hq)) n, _, upd_same, Prs.snoc (Prs.tp (t1.trans t2) hP) (IsPr.tp t2 ?_)⟩
  exact isPr_new (t := (e, c))
end
theorem ints_get {ys : List Int} {i : Nat} {x : V} (h : (ys.map V.int)[i]? = some x) : ∃ e, ys[i]? = some e ∧ x = .int e := by
  rw [List.getElem?_map] at h
  cases q : ys[i]? with
  | none =>
    rw [q] at h
    cases h
  | some e =>
    rw [q] at h
    exact ⟨e, rfl, (Option.some.inj h).symm⟩
theorem take_snoc {α : Type} {ys : List α} {i : Nat} {e : α} (h : ys[i]? = some e) : ys.take (i + 1) = ys.take i ++ [e] := by
  rw [List.take_add_one, h]
  rfl
theorem dget_int {H : Hp} {d : Addr} {m : Pol} {e : Int} (h : H d = some (.dK (kvOf m))) (n : (m.map (·.1)).Nodup) (z : e ∈ m.map (·.1)) : DGet H d (.int e) (some (.int (cf m e))) := by
  have := DGet.k (k := (Sum.inl e : Key)) h
  rw [kv_has n z] at this
  exact this
theorem dget_any {H : Hp} {d : Addr} {m : Pol} (e : Int) (h : H d = some (.dK (kvOf m))) : DGet H d (.int e) (valV (kvOf m) (Sum.inl e)) := DGet.k (k := (Sum.inl e : Key)) h
theorem dput_int {H : Hp} {d : Addr} {m : Pol} (e v : Int) (h : H d = some (.dK (kvOf m))) (n : (m.map (·.1)).Nodup) (hl : m.length ≤ 1000000) : DPut H d (.int e) (.int v) (upd H d (.dK (kvOf (put m e v)))) := by
  have := DPut.k (k := (Sum.inl e : Key)) (v := .int v) h (by rw [kv_len]; exact sl_lt hl)
  rw [kv_put n] at this
  exact this
/-! ### a def of the text by its name, and its call -/
structure Cal (P : Program) (w : World) (K : PySem.W.Frag) (mg : Str → Option Value) (base : Heap) (k : Nat) (x : Str) (sp : Sp) : Prop where
  ex : ∃ (f : Addr) (fd : FuncData) (ps : List Str), FnOk P w K mg base CX0 k f fd ps sp ∧ mg x = some (.ref f) ∧ PySem.W.keepIn K (.ref f) = true ∧ Binds K fd ps []
theorem pe_c {X : Cx} {k j : Nat} {x : Str} {sp : Sp} {p pos : Pos} {e : Expr} {es : List Expr} {t : TA} (c : Cal X.prog X.w X.K X.mg X.base k x sp) (hr : Room j X.A) (hk : k ≤ j) (hg : Gl X x) (ha : PA X (e :: es) t)
    (h1 : (x == ("__debug__" : Str)) = false := by decide) (h2 : starEach (e :: es) X.env = (false, eval e X.env) :: starEach es X.env := by rfl) (h3 : (backTo pos (starEach es X.env)).any (·.1) = false := by rfl) :
    PE X (.Call (.Name x p) (e :: es) [] pos) (tCall sp [] E0 t) := by
  obtain ⟨f, fd, ps, F, hm, kp, b⟩ := c.ex
  exact pe_call F (hr.mono hk) hg hm kp b .nil pass0 ha h1 h2 h3
/-! ### comprehensions that make pairs -/
section
variable {K : PySem.W.Frag} {a : Addr} {xs : List V} {f : Pol} {σ : L2.St} {H : Hp} {vs : List Nat} {n i j : Nat} {te : TE} {Q : VK}
/-- [(.., ..) for x, y in a tuple of pairs] -/
theorem lcT (G : Int × Int → Int × Int) (hv : σ[n]? = some (some (.ref a))) (hs : SqT K H a xs) (hP : Prs K H xs f) (hl : f.length ≤ 1000000)
    (hw : ∀ x y, wipe (((wipe σ vs).set i (some x)).set j (some y)) vs = wipe σ vs)
    (he : ∀ t ∈ f, ∀ H2, Same H H2 → ∀ R : VK, (∀ q, H2 q = none → R (.ref q) (upd H2 q (.tup [.int (G t).1, .int (G t).2]))) → te (((wipe σ vs).set i (some (.int t.1))).set j (some (.int t.2))) H2 R)
    (k : ∀ D H2, H D = none → Grow K H D (f.map G) H2 → Q (.ref D) H2) : tLc (iTup K (tVar n)) (gTup K 2 (gCons (gName i) (gCons (gName j) gNil))) tYes te vs σ H Q := by
  refine ⟨_, hv, a, rfl, ⟨_, hs⟩, fun D nD => lc_tup (K := K) (a := a) (xs := xs) (fun m H2 => Grow K H D ((f.take m).map G) H2) (.start nD) (fun m H2 _ g => same_t g.same hs) ?_ ?_⟩
  · intro m x H2 hm g
    obtain ⟨t, ht, b, rfl, hb⟩ := hP.get hm
    refine ⟨b, _, rfl, same_t g.same hb, rfl, _, _, rfl, _, _, rfl, rfl, hw _ _, ?_⟩
    dsimp only [tYes]
    rw [if_pos rfl]
    refine (he t (List.mem_of_getElem? ht) H2 g.same _ fun q nq => ?_)
    rw [take_snoc ht, List.map_append]
    refine g.step nD nq (G t).1 (G t).2 ?_
    have : m < f.length := (List.getElem?_eq_some_iff.mp ht).1
    rw [List.length_map, List.length_take]
    omega
  · intro H2 g
    rw [hP.len, List.take_length] at g
    exact k D H2 nD g
/-- the same over a list of pairs -/
theorem lcL (G : Int × Int → Int × Int) (hv : σ[n]? = some (some (.ref a))) (hs : SqL K H a xs) (hP : Prs K H xs f) (hl : f.length ≤ 1000000)
    (hw : ∀ x y, wipe (((wipe σ vs).set i (some x)).set j (some y)) vs = wipe σ vs)
    (he : ∀ t ∈ f, ∀ H2, Same H H2 → ∀ R : VK, (∀ q, H2 q = none → R (.ref q) (upd H2 q (.tup [.int (G t).1, .int (G t).2]))) → te (((wipe σ vs).set i (some (.int t.1))).set j (some (.int t.2))) H2 R)
    (k : ∀ D H2, H D = none → Grow K H D (f.map G) H2 → Q (.ref D) H2) : tLc (iList K (tVar n)) (gTup K 2 (gCons (gName i) (gCons (gName j) gNil))) tYes te vs σ H Q := by
  refine ⟨_, hv, a, rfl, ⟨_, hs⟩, fun D nD => lc_list (K := K) (a := a) (xs := xs) (fun m H2 => Grow K H D ((f.take m).map G) H2) (.start nD) (fun m H2 _ g => same_l g.same hs) ?_ ?_⟩
  · intro m x H2 hm g
    obtain ⟨t, ht, b, rfl, hb⟩ := hP.get hm
    refine ⟨b, _, rfl, same_t g.same hb, rfl, _, _, rfl, _, _, rfl, rfl, hw _ _, ?_⟩
    dsimp only [tYes]
    rw [if_pos rfl]
    refine (he t (List.mem_of_getElem? ht) H2 g.same _ fun q nq => ?_)
    rw [take_snoc ht, List.map_append]
    refine g.step nD nq (G t).1 (G t).2 ?_
    have : m < f.length := (List.getElem?_eq_some_iff.mp ht).1
    rw [List.length_map, List.length_take]
    omega
  · intro H2 g
    rw [hP.len, List.take_length] at g
    exact k D H2 nD g
/-- [(.., ..) for k in range(n)] -/
theorem lcR (G : Nat → Int × Int) {c : Int} {tn : TE} (hv : ∀ R : VK, R (.int c) H → tn σ H R) (h0 : 0 ≤ c) (hl : c ≤ 1000000)
    (hw : ∀ x, wipe ((wipe σ vs).set i (some x)) vs = wipe σ vs)
    (he : ∀ m, m < c.toNat → ∀ H2, Same H H2 → ∀ R : VK, (∀ q, H2 q = none → R (.ref q) (upd H2 q (.tup [.int (G m).1, .int (G m).2]))) → te ((wipe σ vs).set i (some (.int (0 + (m : Int))))) H2 R)
    (k : ∀ D H2, H D = none → Grow K H D ((List.range c.toNat).map G) H2 → Q (.ref D) H2) : tLc (iRng1 (tCons tn tNil)) (gName i) tYes te vs σ H Q := by
  refine hv _ ⟨c, rfl, by omega, by omega, fun D nD => lc_range (lo := 0) (n := c.toNat) (fun m H2 => Grow K H D ((List.range m).map G) H2) (.start nD) ?_ fun H2 g => k D H2 nD g⟩
  intro m H2 hm g
  refine ⟨hw _, ?_⟩
  dsimp only [tYes]
  rw [if_pos rfl]
  refine (he m hm H2 g.same _ fun q nq => ?_)
  rw [List.range_succ, List.map_append]
  refine g.step nD nq (G m).1 (G m).2 ?_
  rw [List.length_map, List.length_range]
  omega
end
theorem Grow.lpol {K : PySem.W.Frag} {H0 H : Hp} {D : Addr} {f : Pol} (g : Grow K H0 D f H) : LPol K H (.ref D) f := by
  obtain ⟨xs, h1, h2⟩ := g.ex
  exact ⟨D, xs, rfl, SqL.of h1, h2⟩
/-- tuple(the list of pairs) -/
theorem rd_tuple {K : PySem.W.Frag} {H0 H : Hp} {D : Addr} {f : Pol} {Q : VK} (g : Grow K H0 D f H) (k : ∀ v H', Same H0 H' → TPol K H' v f → Q v H') :
    ∃ p ys, [V.ref D] = [V.ref p] ∧ ((SqL K H p ys ∧ ∀ l, H l = none → Q (.ref l) (upd H l (.tup ys))) ∨ (SqT K H p ys ∧ Q (.ref p) H)) := by
  obtain ⟨xs, h1, h2⟩ := g.ex
  exact ⟨D, xs, rfl, .inl ⟨SqL.of h1, fun l nl => k _ _ (g.same.trans (same_new nl)) ⟨l, xs, rfl, SqT.of upd_same, Prs.tp (tp_new nl) h2⟩⟩⟩
/-! ### a def as the top leaves it -/
structure Df (K : PySem.W.Frag) (mg : Str → Option Value) (x : Str) (st : Stmt) : Prop where
  ex : ∃ (f : Addr) (fd : FuncData), Fun K x x st f fd ∧ mg x = some (.ref f) ∧ PySem.W.keepIn K (.ref f) = true
theorem df_mk {K : PySem.W.Frag} {h : Heap} {mg : Str → Option Value} {x : Str} {st : Stmt} {f : Addr} {oc : Value} {od an : Option Addr} {osl : Array (Option Value)} {kV doc pm cdv ct : Value} (X : K.In h) (G : h.Ns mainGlobals mg)
    (a : PySem.W.nsIn K mainGlobals x = some (some (.ref f))) (l : K.lookup f = some ⟨oc, od, .func (PySem.W.fnOf x x (defArgs st) (defBody st) (defScope st) .none kV doc pm an cdv ct), osl⟩) (c : PySem.W.codeIn K cdv x = true) (k : PySem.W.keepIn K (.ref f) = true) : Df K mg x st :=
  ⟨f, _, fun_mk (st := st) l c k, PySem.W.mg_of X G a, k⟩
theorem cal_of {P : Program} {w : World} {K : PySem.W.Frag} {mg : Str → Option Value} {base : Heap} {k : Nat} {x : Str} {st : Stmt} {ps : List Str} {sp : Sp} (D : Df K mg x st)
    (b : ∀ (kV doc pm : Value) (an : Option Addr) (cdv ct : Value) (us : List Value), us.length = ps.length → bindArgs (PySem.W.fnOf x x (defArgs st) (defBody st) (defScope st) .none kV doc pm an cdv ct) ⟨us, []⟩ = pure (ps.zip us))
    (ok : ∀ f fd, Fun K x x st f fd → FnOk P w K mg base CX0 k f fd ps sp) : Cal P w K mg base k x sp := by
  obtain ⟨f, fd, F, hm, kp⟩ := D.ex
  exact ⟨f, fd, ps, ok f fd F, hm, kp, F.binds b⟩
/-- the law's own def -/
theorem law_of {l : PySem.W.OpenLaw} {w : World} {K : PySem.W.Frag} {mg : Str → Option Value} {fa : Addr} {x y : Str} {st : Stmt} {sp : Sp} (hfa : mg x = some (.ref fa)) (D : Df K mg x st)
    (b : ∀ (kV doc pm : Value) (an : Option Addr) (cdv ct : Value) (s : Shared) (v : Value), BindsTo s (PySem.W.fnOf x x (defArgs st) (defBody st) (defScope st) .none kV doc pm an cdv ct) ⟨[v], []⟩ [(y, v)])
    (ok : ∀ (base : Heap) f fd, Fun K x x st f fd → Kept l.prog w K mg base f fd [y] sp) :
    ∃ fd : FuncData, (∀ (s : Shared) (v : Value), BindsTo s fd ⟨[v], []⟩ [(y, v)]) ∧ ∀ base : Heap, K.In base → base.Ns mainGlobals mg → Kept l.prog w K mg base fa fd [y] sp := by
  obtain ⟨f, fd, F, hm, kp⟩ := D.ex
  cases hfa.symm.trans hm
  refine ⟨fd, ?_, fun base _ _ => ok base fa fd F⟩
  obtain ⟨_, _, kV, doc, pm, an, cdv, ct, _, rfl, _⟩ := F.ex
  exact b kV doc pm an cdv ct
theorem gName_app {i : Nat} {v : V} {σ : L2.St} {H : Hp} {Q : L2.St → Hp → Prop} : gName i v σ H Q = Q (σ.set i (some v)) H := rfl
end DR
namespace DR
open PySem PySem.Spec PyProof.Rows L2
/-! ### the pen that draws from the script -/
theorem n_cu : ¬ ((Sum.inr ("cells" : Str) : Key) = Sum.inr ("used" : Str)) := by decide +kernel
theorem n_cl : ¬ ((Sum.inr ("cells" : Str) : Key) = Sum.inr ("left" : Str)) := by decide +kernel
theorem n_ul : ¬ ((Sum.inr ("used" : Str) : Key) = Sum.inr ("left" : Str)) := by decide +kernel
theorem n_uc : ¬ ((Sum.inr ("used" : Str) : Key) = Sum.inr ("cells" : Str)) := by decide +kernel
theorem n_lc : ¬ ((Sum.inr ("left" : Str) : Key) = Sum.inr ("cells" : Str)) := by decide +kernel
theorem n_lu : ¬ ((Sum.inr ("left" : Str) : Key) = Sum.inr ("used" : Str)) := by decide +kernel
def penKv (c : Addr) (u l : Int) : List (Key × V) := [(Sum.inr ("cells" : Str), .ref c), (Sum.inr ("used" : Str), .int u), (Sum.inr ("left" : Str), .int l)]
section
variable (c : Addr) (u l x : Int)
theorem pen_cells : valV (penKv c u l) (Sum.inr ("cells" : Str) : Key) = some (.ref c) := valV_pos rfl
theorem pen_used : valV (penKv c u l) (Sum.inr ("used" : Str) : Key) = some (.int u) := by
  unfold penKv
  rw [valV_neg n_cu, valV_pos rfl]
theorem pen_left : valV (penKv c u l) (Sum.inr ("left" : Str) : Key) = some (.int l) := by
  unfold penKv
  rw [valV_neg n_cl, valV_neg n_ul, valV_pos rfl]
theorem pen_setU : putK (penKv c u l) (Sum.inr ("used" : Str) : Key) (.int x) = penKv c x l := by
  unfold putK
  rw [valV_any, pen_used, if_pos (by rfl)]
  unfold penKv
  rw [List.map_cons, List.map_cons, List.map_cons, List.map_nil, if_neg n_cu, if_pos rfl, if_neg n_lu]
theorem pen_setL : putK (penKv c u l) (Sum.inr ("left" : Str) : Key) (.int x) = penKv c u x := by
  unfold putK
  rw [valV_any, pen_left, if_pos (by rfl)]
  unfold penKv
  rw [List.map_cons, List.map_cons, List.map_cons, List.map_nil, if_neg n_cl, if_neg n_ul, if_pos rfl]
theorem pen_merge : mergeK [] (penKv c u l) = penKv c u l := by
  have e1 : putK ([] : List (Key × V)) (Sum.inr ("cells" : Str)) (.ref c) = [(Sum.inr ("cells" : Str), .ref c)] := putK_new _ valV_nil
  have e2 : putK ([(Sum.inr ("cells" : Str), .ref c)] : List (Key × V)) (Sum.inr ("used" : Str)) (.int u) = [(Sum.inr ("cells" : Str), .ref c), (Sum.inr ("used" : Str), .int u)] := putK_new _ (by rw [valV_neg n_cu]; exact valV_nil)
  have e3 : putK ([(Sum.inr ("cells" : Str), .ref c), (Sum.inr ("used" : Str), .int u)] : List (Key × V)) (Sum.inr ("left" : Str)) (.int l) = penKv c u l := putK_new _ (by rw [valV_neg n_cl, valV_neg n_ul]; exact valV_nil)
  show putK (putK (putK ([] : List (Key × V)) (Sum.inr ("cells" : Str)) (.ref c)) (Sum.inr ("used" : Str)) (.int u)) (Sum.inr ("left" : Str)) (.int l) = _
  rw [e1, e2, e3]
end
/-- a pen at p, its cells at c, that has drawn at most n numbers -/
structure PenAt (H : Hp) (p c : Addr) (n : Nat) : Prop where
  ex : ∃ (ns : List Int) (u l : Int), H p = some (.dK (penKv c u l)) ∧ H c = some (.lst (ns.map V.int)) ∧ 0 ≤ u ∧ u ≤ n
section
variable {H H' : Hp} {p c : Addr} {n m : Nat}
theorem PenAt.dict (h : PenAt H p c n) : ∃ kvs, H p = some (.dK kvs) := by
  obtain ⟨ns, u, l, h1, _⟩ := h.ex
  exact ⟨_, h1⟩
theorem PenAt.cells (h : PenAt H p c n) : ∃ xs, H c = some (.lst xs) := by
  obtain ⟨ns, u, l, _, h2, _⟩ := h.ex
  exact ⟨_, h2⟩
theorem PenAt.np {q : Addr} (h : PenAt H p c n) (hq : H q = none) : q ≠ p := (h.dict.elim fun _ e => ne_of_none e hq).symm
theorem PenAt.nc {q : Addr} (h : PenAt H p c n) (hq : H q = none) : q ≠ c := (h.cells.elim fun _ e => ne_of_none e hq).symm
theorem PenAt.mono (h : PenAt H p c n) (e : n ≤ m) : PenAt H p c m := by
  obtain ⟨ns, u, l, h1, h2, h3, h4⟩ := h.ex
  exact ⟨ns, u, l, h1, h2, h3, by omega⟩
theorem PenAt.same (h : PenAt H p c n) (s : Same H H') : PenAt H' p c n := by
  obtain ⟨ns, u, l, h1, h2, h3⟩ := h.ex
  exact ⟨ns, u, l, s _ _ h1, s _ _ h2, h3⟩
/-- another object changes -/
theorem PenAt.upd {q : Addr} {o : HO} (h : PenAt H p c n) (h1 : q ≠ p) (h2 : q ≠ c) : PenAt (upd H q o) p c n := by
  obtain ⟨ns, u, l, a1, a2, a3⟩ := h.ex
  exact ⟨ns, u, l, by rw [upd_ne h1.symm]; exact a1, by rw [upd_ne h2.symm]; exact a2, a3⟩
theorem PenAt.tp (h : PenAt H p c n) (k : Kp p H H') : Tp H H' := h.dict.elim fun _ e => k.tp e
end
end DR
namespace DR
open PySem PySem.Spec PyProof.Rows L2
/-! ### what the defs promise -/
/-- a polynomial of the law's: canonical, with at most so many terms, its exponents within reach -/
structure Drawn (q : Int) (g : Pol) (terms : Nat) (reach : Int) : Prop where
  nf : Nf q g (cf g)
  len : g.length ≤ terms
  abs : ∀ t ∈ g, t.1.natAbs ≤ reach.natAbs
def primes : List Int := [2, 3, 5, 7, 11, 13, 17, 19, 23, 29, 31, 37, 41, 43, 47, 53, 59, 61, 67, 71, 73, 79, 83, 89, 97]
theorem prime_rng : ∀ q ∈ primes, 2 ≤ q ∧ q ≤ 97 := by decide
def sp_from_sums (K : PySem.W.Frag) : Sp := fun vs H Q _ => ∃ (p : Int) (d : Addr) (m : Pol), vs = [.int p, .ref d] ∧ 0 < p ∧ H d = some (.dK (kvOf m)) ∧ (m.map (·.1)).Nodup ∧ m.length ≤ 1000000 ∧ ∀ v H' g, Same H H' → TPol K H' v g → Nf p g (cf m) → Q v H'
def sp_normalize (K : PySem.W.Frag) : Sp := fun vs H Q _ => ∃ (p : Int) (v : V) (ps : Pol), vs = [.int p, v] ∧ 0 < p ∧ (TPol K H v ps ∨ LPol K H v ps) ∧ ps.length ≤ 1000000 ∧ ∀ u H' g, Same H H' → TPol K H' u g → Nf p g (cf ps) → Q u H'
def sp_scale (K : PySem.W.Frag) : Sp := fun vs H Q _ => ∃ (p : Int) (v : V) (f : Pol) (c : Int), vs = [.int p, v, .int c] ∧ 0 < p ∧ TPol K H v f ∧ f.length ≤ 1000000 ∧ (∀ t ∈ f, -(2 ^ 64) < t.2 ∧ t.2 < 2 ^ 64) ∧ ∀ u H' g, Same H H' → TPol K H' u g → Nf p g (fun e => cf f e * c) → Q u H'
def sp_move (K : PySem.W.Frag) : Sp := fun vs H Q _ => ∃ (v : V) (f : Pol) (n : Int), vs = [v, .int n] ∧ TPol K H v f ∧ f.length ≤ 1000000 ∧ ∀ u H', Same H H' → TPol K H' u (moved n f) → Q u H'
def sp_geometric (K : PySem.W.Frag) : Sp := fun vs H Q _ => ∃ (p n s : Int), vs = [.int p, .int n, .int s] ∧ 0 < p ∧ 0 ≤ n ∧ n ≤ 1000000 ∧ ∀ u H' g, Same H H' → TPol K H' u g → Nf p g (cf (rounds n.toNat s)) → Q u H'
def sp_add (K : PySem.W.Frag) : Sp := fun vs H Q _ => ∃ (p : Int) (v1 v2 : V) (f g : Pol), vs = [.int p, v1, v2] ∧ 0 < p ∧ TPol K H v1 f ∧ TPol K H v2 g ∧ f.length + g.length ≤ 1000000 ∧ ∀ u H' r, Same H H' → TPol K H' u r → Nf p r (fun e => cf f e + cf g e) → Q u H'
def sp_subtract (K : PySem.W.Frag) : Sp := fun vs H Q _ => ∃ (p : Int) (v1 v2 : V) (f g : Pol), vs = [.int p, v1, v2] ∧ 0 < p ∧ TPol K H v1 f ∧ TPol K H v2 g ∧ f.length + g.length ≤ 1000000 ∧ (∀ t ∈ g, -(2 ^ 64) < t.2 ∧ t.2 < 2 ^ 64) ∧ ∀ u H' r, Same H H' → TPol K H' u r → Nf p r (fun e => cf f e - cf g e) → Q u H'
def sp_multiply (K : PySem.W.Frag) : Sp := fun vs H Q _ => ∃ (p : Int) (v1 v2 : V) (f g : Pol), vs = [.int p, v1, v2] ∧ 0 < p ∧ TPol K H v1 f ∧ TPol K H v2 g ∧ f.length * g.length ≤ 1000000 ∧ (∀ t ∈ f, -(2 ^ 64) < t.2 ∧ t.2 < 2 ^ 64) ∧ ∀ u H' r, Same H H' → TPol K H' u r → Nf p r (cf (prods f g)) → Q u H'
def sp__law_pen (K : PySem.W.Frag) : Sp := fun vs H Q _ => ∃ (a : Addr) (ns : List Int), vs = [.ref a] ∧ SqL K H a (ns.map V.int) ∧ ∀ p c H', H p = none → Same H H' → PenAt H' p c 0 → Q (.ref p) H'
def sp__law_draw : Sp := fun vs H Q _ => ∃ (p c : Addr) (many : Int) (n : Nat), vs = [.ref p, .int many] ∧ 0 < many ∧ many.natAbs < 2 ^ 400 ∧ PenAt H p c n ∧ n < 2 ^ 40 ∧ ∀ r H', 0 ≤ r → r < many → Kp p H H' → PenAt H' p c (n + 1) → Q (.int r) H'
def sp__law_pick : Sp := fun vs H Q _ => ∃ (p c o : Addr) (n : Nat) (xs : List V), vs = [.ref p, .ref o] ∧ PenAt H p c n ∧ n < 2 ^ 40 ∧ H o = some (.lst xs) ∧ 0 < xs.length ∧ xs.length ≤ 100000 ∧ ∀ v H', v ∈ xs → Kp p H H' → PenAt H' p c (n + 1) → Q v H'
def sp__law_prime : Sp := fun vs H Q _ => ∃ (p c : Addr) (n : Nat), vs = [.ref p] ∧ PenAt H p c n ∧ n + 2 < 2 ^ 40 ∧ ∀ q H', q ∈ primes → Kp p H H' → PenAt H' p c (n + 2) → Q (.int q) H'
def sp__law_integer : Sp := fun vs H Q _ => ∃ (p c : Addr) (most : Int) (n : Nat), vs = [.ref p, .int most] ∧ 0 ≤ most ∧ most.natAbs < 10 ^ 90 ∧ PenAt H p c n ∧ n < 2 ^ 40 ∧ ∀ r H', r.natAbs ≤ most.natAbs → Kp p H H' → PenAt H' p c (n + 1) → Q (.int r) H'
def sp__law_polynomial (K : PySem.W.Frag) : Sp := fun vs H Q _ => ∃ (p c : Addr) (q terms reach : Int) (n : Nat), vs = [.ref p, .int q, .int terms, .int reach] ∧ 2 ≤ q ∧ q ≤ 97 ∧ 0 ≤ terms ∧ terms ≤ 1000 ∧ 0 ≤ reach ∧ reach.natAbs < 10 ^ 90 ∧ PenAt H p c n ∧ n < 2 ^ 39 ∧
  ∀ v H' g, Kp p H H' → PenAt H' p c (n + 2 * terms.toNat + 1) → TPol K H' v g → Drawn q g terms.toNat reach → Q v H'
theorem mul_room {i j a b : Nat} (hi : i < a) (hj : j < b) (h : a * b ≤ 1000000) : i * b + j < 1000000 := by
  have h1 : (i + 1) * b ≤ a * b := Nat.mul_le_mul_right b hi
  rw [Nat.add_mul, Nat.one_mul] at h1
  omega
theorem neg_mod (a b c p : Int) (h : c = b * -1 % p) : (a + c) % p = (a - b) % p := by
  rw [h, Int.add_emod_emod]
  congr 1
  omega
theorem sm_nf {q : Int} {g : Pol} {F : Int → Int} {L : List Int} (h : Nf q g F) (hq : q ≤ 97) (z : ∀ e, e ∉ L → F e % q = 0) (hl : L.length ≤ 50000) (hb : ∀ e ∈ L, e.natAbs < 10 ^ 100) : Sm g := by
  refine ⟨Nat.le_trans (h.len z) hl, fun t ht => ⟨hb _ (h.sub z t ht), ?_⟩⟩
  have := h.rng t ht
  exact Nat.lt_of_le_of_lt (show t.2.natAbs ≤ 97 by omega) (by decide +kernel)
theorem sm_moved {g : Pol} {n : Int} {q : Int} (hl : g.length ≤ 50000) (hb : ∀ t ∈ g, t.1.natAbs < 10 ^ 95 ∧ 0 < t.2 ∧ t.2 ≤ 97) (hn : n.natAbs < 10 ^ 95) : Sm (moved n g) := by
  refine ⟨by unfold moved; rw [List.length_map]; exact hl, fun t ht => ?_⟩
  obtain ⟨u, hu, rfl⟩ := List.mem_map.mp (show t ∈ g.map fun t => (t.1 + n, t.2) from ht)
  have h1 := hb u hu
  refine ⟨?_, Nat.lt_of_le_of_lt (show u.2.natAbs ≤ 97 by omega) (by decide +kernel)⟩
  have e : 10 ^ 95 + 10 ^ 95 < 10 ^ 100 := by decide +kernel
  show (u.1 + n).natAbs < 10 ^ 100
  omega
theorem drawn_sm {q : Int} {g : Pol} {terms : Nat} {reach : Int} (d : Drawn q g terms reach) (hq : q ≤ 97) (ht : terms ≤ 50000) (hr : reach.natAbs < 10 ^ 90) : Sm g := by
  refine ⟨Nat.le_trans d.len ht, fun t h => ⟨?_, ?_⟩⟩
  · have e : 10 ^ 90 < 10 ^ 100 := by decide +kernel
    have := d.abs t h
    omega
  · have := d.nf.rng t h
    exact Nat.lt_of_le_of_lt (show t.2.natAbs ≤ 97 by omega) (by decide +kernel)
theorem mem_ints {v : V} {ns : List Int} {R : Int → Prop} (h : v ∈ ns.map V.int) (a : ∀ x ∈ ns, R x) : ∃ x, v = .int x ∧ R x := by
  obtain ⟨x, hx, rfl⟩ := List.mem_map.mp h
  exact ⟨x, rfl, a x hx⟩
def sp_law (K : PySem.W.Frag) : Sp := fun vs H Q _ => ∃ (a : Addr) (ns : List Int), vs = [.ref a] ∧ SqL K H a (ns.map V.int) ∧ ns.length ≤ 63 ∧ ∀ H', Q (.bl true) H'
/-! ### effects -/
def TEff (K : PySem.W.Frag) (H : Hp) (v : V) (f : Pol) (n : Int) : Prop := ∃ a x, v = .ref a ∧ SqT K H a [x, .int n] ∧ TPol K H x f
theorem TEff.tp {K : PySem.W.Frag} {H H' : Hp} {v : V} {f : Pol} {n : Int} (e : Tp H H') (h : TEff K H v f n) : TEff K H' v f n := by
  obtain ⟨a, x, rfl, hs, hx⟩ := h
  exact ⟨a, x, rfl, tp_t e hs, hx.tp e⟩
def ed (f : Pol) (n : Int) : PyData := .tuple [pd f, .int n]
theorem TEff.dp {K : PySem.W.Frag} {H : Hp} {v : V} {f : Pol} {n : Int} (h : TEff K H v f n) : Dp K H v (ed f n) := by
  obtain ⟨a, x, rfl, hs, hx⟩ := h
  exact .tup hs (.cons hx.dp (.cons (.int _) .nil))
theorem TEff.shows {K : PySem.W.Frag} {H : Hp} {v : V} {f : Pol} {n : Int} (h : TEff K H v f n) (s : Sm f) (hn : n.natAbs < 10 ^ 100) : Shows K H v (ed f n) := by
  obtain ⟨a1, a2, a3, a4⟩ := pd_shows s
  obtain ⟨b1, b2⟩ := int_shows hn
  have := s.len
  refine ⟨h.elim fun a z => z.elim fun _ y => ⟨a, y.1⟩, h.dp, ?_, ?_, ?_, ?_⟩
  · show ((pd f).showable && ((PyData.int n).showable && true)) = true
    rw [a1, b1]
    rfl
  · show ((pd f).hasDict || (false || false)) = false
    rw [a2]
    rfl
  · show max (pd f).depth (max 0 0) + 1 ≤ 64
    omega
  · show (tupleText [(pd f).shown, (PyData.int n).shown]).length ≤ sizeLine
    have e := tupleText_len_le [(pd f).shown, (PyData.int n).shown]
    simp only [List.map_cons, List.map_nil, List.sum_cons, List.sum_nil, List.length_cons, List.length_nil] at e
    rw [sizeLine_eq]
    omega
theorem ed_shaped (f : Pol) (n : Int) : SeqAt.shaped (ed f n) = true := by
  obtain ⟨a, b⟩ := prs_lay f
  show (((PyData.canLayAll0 (f.map pr)) && (true && true)) && decide (max (PyData.depthAll (f.map pr) + 1) (max 0 0) + 1 ≤ 64)) = true
  rw [a, decide_eq_true (by omega)]
  rfl
def sp_compose (K : PySem.W.Frag) : Sp := fun vs H Q _ => ∃ (p : Int) (v1 v2 : V) (f g : Pol) (m n : Int), vs = [.int p, v1, v2] ∧ 0 < p ∧ TEff K H v1 f m ∧ TEff K H v2 g n ∧ f.length + g.length ≤ 1000000 ∧ ∀ u H' r, Same H H' → TEff K H' u r (m + n) → Nf p r (fun e => cf f e + cf g (e - m)) → Q u H'
def sp_inverse (K : PySem.W.Frag) : Sp := fun vs H Q _ => ∃ (p : Int) (v : V) (f : Pol) (m : Int), vs = [.int p, v] ∧ 0 < p ∧ TEff K H v f m ∧ f.length ≤ 1000000 ∧ (∀ t ∈ f, -(2 ^ 64) < t.2 ∧ t.2 < 2 ^ 64) ∧ ∀ u H' r, Same H H' → TEff K H' u r (-m) → Nf p r (fun e => cf f (e + m) * -1) → Q u H'
def sp__law_effect (K : PySem.W.Frag) : Sp := fun vs H Q _ => ∃ (p c : Addr) (q terms reach : Int) (n : Nat), vs = [.ref p, .int q, .int terms, .int reach] ∧ 2 ≤ q ∧ q ≤ 97 ∧ 0 ≤ terms ∧ terms ≤ 1000 ∧ 0 ≤ reach ∧ reach.natAbs < 10 ^ 90 ∧ PenAt H p c n ∧ n < 2 ^ 38 ∧
  ∀ v H' g sh, Kp p H H' → PenAt H' p c (n + 2 * terms.toNat + 3) → TEff K H' v g sh → Drawn q g terms.toNat reach → sh.natAbs ≤ reach.natAbs → Q v H'
theorem atI3 {a b c : V} {r : Int} (h0 : 0 ≤ r) (h9 : r < 3) : atI [a, b, c] r = some a ∨ atI [a, b, c] r = some b ∨ atI [a, b, c] r = some c := by
  have : r = 0 ∨ r = 1 ∨ r = 2 := by omega
  rcases this with rfl | rfl | rfl
  · exact .inl rfl
  · exact .inr (.inl rfl)
  · exact .inr (.inr rfl)
theorem moved_len (n : Int) (f : Pol) : (moved n f).length = f.length := by
  unfold moved
  rw [List.length_map]
/-! ### a comprehension that draws -/
theorem lcPen {K : PySem.W.Frag} {p c : Addr} {σ : L2.St} {H : Hp} {vs : List Nat} {i : Nat} {te : TE} {Q : VK} (R : Hp → V → Prop) (stay : ∀ {H H' : Hp} {v : V}, Tp H H' → R H v → R H' v) (n : Nat) {z : Int} (hz : z = (n : Int)) (b cost : Nat) (hn : n ≤ 1000)
    (hw : ∀ x, wipe ((wipe σ vs).set i (some x)) vs = wipe σ vs) (pen : PenAt H p c b)
    (he : ∀ (m : Nat), m < n → ∀ H2, Kp p H H2 → PenAt H2 p c (b + cost * m) → ∀ S : VK, (∀ v H3, Kp p H2 H3 → PenAt H3 p c (b + cost * (m + 1)) → R H3 v → S v H3) → te ((wipe σ vs).set i (some (.int (0 + (m : Int))))) H2 S)
    (k : ∀ D xs H2, xs.length = n → H2 D = some (.lst xs) → (∀ v ∈ xs, R H2 v) → Kp p H H2 → PenAt H2 p c (b + cost * n) → Q (.ref D) H2) : tLc (iRng1 (tCons (tC (.int z)) tNil)) (gName i) tYes te vs σ H Q := by
  subst hz
  refine ⟨(n : Int), rfl, by omega, by omega, fun D nD => lc_range (lo := 0) (n := ((n : Int)).toNat) (fun m H2 => ∃ xs, H2 D = some (.lst xs) ∧ xs.length = m ∧ (∀ v ∈ xs, R H2 v) ∧ Kp p H H2 ∧ PenAt H2 p c (b + cost * m)) ⟨[], upd_same, rfl, fun v h => absurd h List.not_mem_nil, Same.kp (same_new nD), pen.same (same_new nD)⟩ ?_ ?_⟩
  · rintro m H2 hm ⟨xs, hD, hl, hR, kp, pen2⟩
    refine ⟨hw _, ?_⟩
    dsimp only [tYes]
    rw [if_pos rfl]
    refine he m (by omega) H2 kp pen2 _ fun v H3 k3 pen3 hv => ?_
    have npD := pen.np nD
    have ncD := pen.nc nD
    have hD3 : H3 D = some (.lst xs) := k3 _ _ npD hD
    refine ⟨xs, hD3, sl_lt (by omega), xs ++ [v], upd_same, by rw [List.length_append, hl]; rfl, fun w hw' => ?_, fun x o nx ex => ?_, pen3.upd npD ncD⟩
    · have t3 : Tp H3 (upd H3 D (.lst (xs ++ [v]))) := tp_lst hD3
      rcases List.mem_append.mp hw' with h | h
      · exact stay ((pen2.tp k3).trans t3) (hR w h)
      · have e : w = v := by simpa using h
        rw [e]
        exact stay t3 hv
    · rw [upd_ne (ne_of_none ex nD)]
      exact k3 _ _ nx (kp _ _ nx ex)
  · rintro H2 ⟨xs, hD, hl, hR, kp, pen2⟩
    exact k D xs H2 (by rw [hl]; omega) hD hR kp (pen2.mono (by rw [Int.toNat_natCast]; exact Nat.le_refl _))
theorem three {α : Type} {xs : List α} (h : xs.length = 3) : ∃ a b c, xs = [a, b, c] := by
  match xs, h with
  | [a, b, c], _ => exact ⟨a, b, c, rfl⟩
/-! ### comparisons of data -/
theorem iteE {A B : Prop} (r : Pol) (h : B) : if (!PyData.eqv (pd r) (pd r)) = true then A else B := by
  rw [SeqAt.eqv_refl _ (SeqAt.canLay_of_shaped (pd_shaped r))]
  exact iteF h
theorem iteEE {A B : Prop} (r : Pol) (n : Int) (h : B) : if (!PyData.eqv (ed r n) (ed r n)) = true then A else B := by
  rw [SeqAt.eqv_refl _ (SeqAt.canLay_of_shaped (ed_shaped r n))]
  exact iteF h
theorem eqv_nil (f : Pol) : PyData.eqv (pd f) (pd []) = decide (f = []) := by
  cases f with
  | nil => rfl
  | cons t r => rfl
theorem Nf.cfs {q : Int} {g : Pol} {F : Int → Int} (h : Nf q g F) (hq : q ≤ 97) : ∀ t ∈ g, -(2 ^ 64) < t.2 ∧ t.2 < 2 ^ 64 := fun t ht => by
  have := h.rng t ht
  omega
theorem len_add {q : Int} {f g r : Pol} (N : Nf q r (fun e => cf f e + cf g e)) : r.length ≤ f.length + g.length := by
  have := N.len (L := f.map (·.1) ++ g.map (·.1)) fun e he => by
    rw [cf_out (fun z => he (List.mem_append_left _ z)), cf_out (fun z => he (List.mem_append_right _ z))]
    rfl
  rw [List.length_append, List.length_map, List.length_map] at this
  exact this
theorem len_sub {q : Int} {f g r : Pol} (N : Nf q r (fun e => cf f e - cf g e)) : r.length ≤ f.length + g.length := by
  have := N.len (L := f.map (·.1) ++ g.map (·.1)) fun e he => by
    rw [cf_out (fun z => he (List.mem_append_left _ z)), cf_out (fun z => he (List.mem_append_right _ z))]
    rfl
  rw [List.length_append, List.length_map, List.length_map] at this
  exact this
theorem len_mul {q : Int} {f g r : Pol} (N : Nf q r (cf (prods f g))) : r.length ≤ f.length * g.length := by
  have := N.len (L := (prods f g).map (·.1)) fun e he => by
    rw [cf_out he]
    rfl
  rw [List.length_map, prods_len] at this
  exact this
theorem len_scale {q k : Int} {f r : Pol} (N : Nf q r (fun e => cf f e * k)) : r.length ≤ f.length := by
  have := N.len (L := f.map (·.1)) fun e he => by
    rw [cf_out he, Int.zero_mul]
    rfl
  rw [List.length_map] at this
  exact this
theorem nf_nil {q : Int} {F : Int → Int} (h : ∀ e, F e % q = 0) : Nf q [] F := ⟨.nil, fun t h => absurd h List.not_mem_nil, fun e => by rw [h]; rfl⟩
theorem nz_check : (primes.all fun q => (List.range q.toNat).all fun a => (List.range q.toNat).all fun b => a == 0 || b == 0 || (a * b % q.toNat != 0)) = true := by decide +kernel
theorem prime_nz {q : Int} (hq : q ∈ primes) {a b : Int} (ha : 0 < a) (ha' : a < q) (hb : 0 < b) (hb' : b < q) : a * b % q ≠ 0 := by
  intro h
  have h1 := List.all_eq_true.mp nz_check q hq
  have h2 := List.all_eq_true.mp h1 a.toNat (List.mem_range.mpr (by omega))
  have h3 := List.all_eq_true.mp h2 b.toNat (List.mem_range.mpr (by omega))
  simp only [Bool.or_eq_true, beq_iff_eq, bne_iff_ne, ne_eq] at h3
  rcases h3 with (h3 | h3) | h3
  · omega
  · omega
  · apply h3
    have e : ((a.toNat * b.toNat % q.toNat : Nat) : Int) = a * b % q := by
      rw [Int.natCast_emod, Int.natCast_mul, Int.toNat_of_nonneg (by omega), Int.toNat_of_nonneg (by omega), Int.toNat_of_nonneg (by omega)]
    rw [h] at e
    omega
theorem nf_one {q e c : Int} (h1 : 0 < c) (h2 : c < q) : Nf q [(e, c)] (cf [(e, c)]) := by
  refine ⟨List.pairwise_singleton _ _, fun t h => ?_, fun x => ?_⟩
  · have : t = (e, c) := by simpa using h
    rw [this]
    exact ⟨h1, h2⟩
  · rw [cf_cons, cf_nil]
    by_cases h : e = x
    · rw [if_pos h, Int.add_zero, Int.emod_eq_of_lt (by omega) h2]
    · rw [if_neg h]
      rfl
theorem len_rounds {q st : Int} {n : Nat} {r : Pol} {L : Nat} (N : Nf q r (cf (rounds n st))) (h : n ≤ L) : r.length ≤ L := by
  have := N.len (L := (rounds n st).map (·.1)) fun e he => by
    rw [cf_out he]
    rfl
  unfold rounds at this
  rw [List.length_map, List.length_map, List.length_range] at this
  omega
theorem len_comp {q m : Int} {f g r : Pol} (N : Nf q r (fun e => cf f e + cf g (e - m))) : r.length ≤ f.length + g.length := by
  have N' : Nf q r (fun e => cf f e + cf (moved m g) e) := N.to fun e => by rw [cf_moved]
  have := len_add N'
  rw [moved_len] at this
  exact this
theorem len_inv {q m : Int} {f r : Pol} (N : Nf q r (fun e => cf f (e + m) * -1)) : r.length ≤ f.length := by
  have N' : Nf q r (fun e => cf (moved (-m) f) e * -1) := N.to fun e => by rw [cf_moved, Int.sub_neg]
  have := len_scale N'
  rw [moved_len] at this
  exact this
theorem teff_sh {K : PySem.W.Frag} {H : Hp} {v : V} {f : Pol} {m n : Int} (e : m = n) (h : TEff K H v f m) : TEff K H v f n := by
  rw [← e]
  exact h
theorem undo_add (a b q : Int) : ((a + b) % q - b) % q = a % q := by
  rw [Int.sub_emod, Int.emod_emod, ← Int.sub_emod]
  congr 1
  omega
theorem geo_close {q st cnt : Int} {gap geo : Pol} (Ng : Nf q gap (fun e => cf [(0, 1)] e - cf [(st, 1)] e)) (No : Nf q geo (cf (rounds cnt.toNat st))) (h0 : 0 ≤ cnt) (e : Int) : cf (prods gap geo) e % q = (cf [(0, 1)] e - cf [(cnt * st, 1)] e) % q := by
  rw [cf_prods, conv_fst (f' := [(0, 1), (st, -1)]) (fun x => ?_) geo e, conv_mod (G' := cf (rounds cnt.toNat st)) (fun x => by rw [No.cof, Int.emod_emod])]
  · show (1 * cf (rounds cnt.toNat st) (e - 0) + (-1 * cf (rounds cnt.toNat st) (e - st) + 0)) % q = ((if 0 = e then 1 else 0) + 0 - ((if cnt * st = e then 1 else 0) + 0)) % q
    have h := rounds_tel st e cnt.toNat
    rw [Int.toNat_of_nonneg h0] at h
    congr 1
    rw [Int.sub_zero]
    omega
  · rw [Ng.cof, Int.emod_emod]
    congr 1
    show (if 0 = x then 1 else 0) + 0 - ((if st = x then 1 else 0) + 0) = (if 0 = x then 1 else 0) + ((if st = x then -1 else 0) + 0)
    by_cases h : st = x
    · rw [if_pos h, if_pos h]
      omega
    · rw [if_neg h, if_neg h]
      omega
theorem prod_ne {q : Int} {f g r : Pol} (hq : q ∈ primes) (nf : Nf q f (cf f)) (ng : Nf q g (cf g)) (nr : Nf q r (cf (prods f g))) (hf : f ≠ []) (hg : g ≠ []) : r ≠ [] := by
  intro hr
  obtain ⟨t, f', rfl⟩ := List.exists_cons_of_ne_nil hf
  obtain ⟨u, g', rfl⟩ := List.exists_cons_of_ne_nil hg
  have h := nr.cof (t.1 + u.1)
  rw [hr, cf_prods, conv_least nf.asc ng.asc] at h
  have a := nf.rng t List.mem_cons_self
  have b := ng.rng u List.mem_cons_self
  exact prime_nz hq a.1 a.2 b.1 b.2 h.symm
def sp_power0 (K : PySem.W.Frag) : Sp := fun vs H Q _ => ∃ (p : Int) (v : V) (f : Pol) (m c : Int), vs = [.int p, v, .int c] ∧ 0 < p ∧ TEff K H v f m ∧ 0 ≤ c ∧ c.natAbs ≤ 1000 ∧ f.length ≤ 1000 ∧ (∀ t ∈ f, -(2 ^ 64) < t.2 ∧ t.2 < 2 ^ 64) ∧ ∀ u H' r, Same H H' → TEff K H' u r (c * m) → Nf p r (fun e => pwF (cf f) m c e) → r.length ≤ f.length * c.natAbs → Q u H'
def sp_power (K : PySem.W.Frag) : Sp := fun vs H Q _ => ∃ (p : Int) (v : V) (f : Pol) (m c : Int), vs = [.int p, v, .int c] ∧ 0 < p ∧ p ≤ 97 ∧ TEff K H v f m ∧ c.natAbs ≤ 1000 ∧ f.length ≤ 1000 ∧ (∀ t ∈ f, -(2 ^ 64) < t.2 ∧ t.2 < 2 ^ 64) ∧ ∀ u H' r, Same H H' → TEff K H' u r (c * m) → Nf p r (fun e => pwF (cf f) m c e) → r.length ≤ f.length * c.natAbs → Q u H'
/-- order, of an effect that does not move -/
def sp_order (K : PySem.W.Frag) : Sp := fun vs H Q _ => ∃ (p : Int) (v : V) (f : Pol), vs = [.int p, v] ∧ TEff K H v f 0 ∧ Q (.int (if f = [] then 1 else p)) H
theorem Nf.subP {p : Int} {g : Pol} {F : Int → Int} {R : Int → Prop} (a : Nf p g F) (h : ∀ e, ¬ R e → F e % p = 0) : ∀ t ∈ g, R t.1 := fun t ht => by
  refine Classical.byContradiction fun n => ?_
  have e1 := a.cof t.1
  rw [cf_mem a.asc t ht, h _ n] at e1
  have := (a.rng t ht).1
  omega
theorem pow_sm {q m c : Int} {f r : Pol} (N : Nf q r (fun e => pwF (cf f) m c e)) (hq : q ≤ 97) (l : r.length ≤ 50000) (hf : ∀ t ∈ f, t.1.natAbs < 10 ^ 90) (hm : m.natAbs < 10 ^ 90) (hc : c.natAbs ≤ 1000) : Sm r := by
  refine ⟨l, fun t ht => ⟨N.subP (R := fun e => e.natAbs < 10 ^ 100) (fun e he => ?_) t ht, ?_⟩⟩
  · rw [pw_far c fun k hk => ?_]
    · rfl
    · refine cf_none f _ fun u hu z => he ?_
      have h1 := hf u hu
      have h2 : (k * m).natAbs ≤ 1000 * 10 ^ 90 := by
        rw [Int.natAbs_mul]
        exact Nat.mul_le_mul (Nat.le_trans hk hc) (Nat.le_of_lt hm)
      have h3 : 1000 * 10 ^ 90 + 10 ^ 90 < 10 ^ 100 := by decide +kernel
      have h4 : e = u.1 + k * m := by omega
      rw [h4]
      generalize k * m = km at h2
      omega
  · have := N.rng t ht
    exact Nat.lt_of_le_of_lt (show t.2.natAbs ≤ 97 by omega) (by decide +kernel)
end DR
namespace DR
open PySem PySem.Spec PyProof.Rows L2
/-! ### any data, and what is told of it -/
def tyName : PyData → String
  | .none => "NoneType"
  | .bool _ => "bool"
  | .int _ => "int"
  | .str _ => "str"
  | .list _ => "list"
  | .tuple _ => "tuple"
  | .dict _ => "dict"
def isTup : PyData → Bool
  | .tuple _ => true
  | _ => false
def isInt' : PyData → Bool
  | .int _ => true
  | .bool _ => true
  | _ => false
def isBool : PyData → Bool
  | .bool _ => true
  | _ => false
def isWhole : PyData → Bool
  | .int _ => true
  | _ => false
def isTerm (p : Int) : PyData → Bool
  | .tuple [.int _, .int c] => decide (1 ≤ c) && decide (c < p)
  | _ => false
def expo : PyData → Int
  | .tuple (.int e :: _) => e
  | _ => 0
def ascD : List PyData → Bool
  | x :: y :: r => decide (expo x < expo y) && ascD (y :: r)
  | _ => true
def isPoly (p : Int) : PyData → Bool
  | .tuple ds => ds.all (isTerm p) && ascD ds
  | _ => false
def isEff (p : Int) : PyData → Bool
  | .tuple [a, b] => isPoly p a && isWhole b
  | _ => false
/-- data, or an empty dict -/
def DpX (K : PySem.W.Frag) (H : Hp) (v : V) (d : PyData) : Prop := Dp K H v d ∨ ∃ a, v = .ref a ∧ H a = some (.dK []) ∧ d = .dict []
section
variable {K : PySem.W.Frag} {H H' : Hp} {v : V} {d : PyData}
theorem Dp.ty (h : Dp K H v d) : TyX K H v (.type (tyName d)) := by
  cases h with
  | non => exact .base .non
  | bl b => exact .base (.bl b)
  | int i => exact .base (.int i)
  | str x => exact .base (.str x)
  | lst hs _ =>
    rcases hs with (h | ⟨o, h⟩) | ⟨o, its, n, h, c, _⟩
    · exact .base (.lst h)
    · exact .base (.frz h)
    · exact .kList h c
  | tup hs _ =>
    rcases hs with (h | ⟨o, h⟩) | ⟨o, its, n, h, c, _⟩
    · exact .base (.tup h)
    · exact .fTuple h
    · exact .kTuple h c
theorem DpX.ty (h : DpX K H v d) : TyX K H v (.type (tyName d)) := by
  rcases h with h | ⟨a, rfl, h, rfl⟩
  · exact Dp.ty h
  · exact .base (.dK h)
theorem kit_tuple (d : PyData) : PySem.W.kitOne K (.type (tyName d)) (.type "tuple") = some (isTup d) := by
  cases d with
  | none => exact kit_ty (show kitB "NoneType" "tuple" = some false by decide +kernel)
  | bool b => exact kit_ty (show kitB "bool" "tuple" = some false by decide +kernel)
  | int i => exact kit_ty (show kitB "int" "tuple" = some false by decide +kernel)
  | str x => exact kit_ty (show kitB "str" "tuple" = some false by decide +kernel)
  | list xs => exact kit_ty (show kitB "list" "tuple" = some false by decide +kernel)
  | tuple xs => exact kit_ty (show kitB "tuple" "tuple" = some true by decide +kernel)
  | dict kvs => exact kit_ty (show kitB "dict" "tuple" = some false by decide +kernel)
theorem kit_int (d : PyData) : PySem.W.kitOne K (.type (tyName d)) (.type "int") = some (isInt' d) := by
  cases d with
  | none => exact kit_ty (show kitB "NoneType" "int" = some false by decide +kernel)
  | bool b => exact kit_ty (show kitB "bool" "int" = some true by decide +kernel)
  | int i => exact kit_ty (show kitB "int" "int" = some true by decide +kernel)
  | str x => exact kit_ty (show kitB "str" "int" = some false by decide +kernel)
  | list xs => exact kit_ty (show kitB "list" "int" = some false by decide +kernel)
  | tuple xs => exact kit_ty (show kitB "tuple" "int" = some false by decide +kernel)
  | dict kvs => exact kit_ty (show kitB "dict" "int" = some false by decide +kernel)
theorem kit_bool (d : PyData) : PySem.W.kitOne K (.type (tyName d)) (.type "bool") = some (isBool d) := by
  cases d with
  | none => exact kit_ty (show kitB "NoneType" "bool" = some false by decide +kernel)
  | bool b => exact kit_ty (show kitB "bool" "bool" = some true by decide +kernel)
  | int i => exact kit_ty (show kitB "int" "bool" = some false by decide +kernel)
  | str x => exact kit_ty (show kitB "str" "bool" = some false by decide +kernel)
  | list xs => exact kit_ty (show kitB "list" "bool" = some false by decide +kernel)
  | tuple xs => exact kit_ty (show kitB "tuple" "bool" = some false by decide +kernel)
  | dict kvs => exact kit_ty (show kitB "dict" "bool" = some false by decide +kernel)
mutual
theorem Dp.same (e : Same H H') : ∀ {v : V} {d : PyData}, Dp K H v d → Dp K H' v d
  | _, _, .non => .non
  | _, _, .bl b => .bl b
  | _, _, .int i => .int i
  | _, _, .str x => .str x
  | _, _, .lst hs ha => .lst (e.seq hs) (DpAll.same e ha)
  | _, _, .tup hs ha => .tup (same_t e hs) (DpAll.same e ha)
theorem DpAll.same (e : Same H H') : ∀ {vs : List V} {ds : List PyData}, DpAll K H vs ds → DpAll K H' vs ds
  | _, _, .nil => .nil
  | _, _, .cons h t => .cons (Dp.same e h) (DpAll.same e t)
end
theorem DpX.same (e : Same H H') (h : DpX K H v d) : DpX K H' v d := h.elim (fun z => .inl (Dp.same e z)) fun ⟨a, e1, e2, e3⟩ => .inr ⟨a, e1, e _ _ e2, e3⟩
theorem DpAll.len : ∀ {vs : List V} {ds : List PyData}, DpAll K H vs ds → vs.length = ds.length
  | _, _, .nil => rfl
  | _, _, .cons _ t => by rw [List.length_cons, List.length_cons, DpAll.len t]
theorem DpAll.get : ∀ {vs : List V} {ds : List PyData} {i : Nat} {x : V}, DpAll K H vs ds → vs[i]? = some x → ∃ d, ds[i]? = some d ∧ Dp K H x d
  | _, _, _, _, .nil, e => by simp at e
  | _, _, 0, _, .cons h _, e => by
    simp at e
    subst e
    exact ⟨_, rfl, h⟩
  | _, _, i + 1, x, .cons _ t, e => by
    obtain ⟨d, h1, h2⟩ := DpAll.get (i := i) (x := x) t (by simpa using e)
    exact ⟨d, by simpa using h1, h2⟩
/-- a tuple's items -/
theorem Dp.tup_inv {ds : List PyData} (h : Dp K H v (.tuple ds)) : ∃ a xs, v = .ref a ∧ SqT K H a xs ∧ DpAll K H xs ds := by
  cases h with
  | tup hs ha => exact ⟨_, _, rfl, hs, ha⟩
theorem Dp.pair_inv {e c : Int} (h : Dp K H v (.tuple [.int e, .int c])) : ∃ a, v = .ref a ∧ SqT K H a [.int e, .int c] := by
  cases h with
  | tup hs ha =>
    cases ha with
    | cons h1 t =>
      cases t with
      | cons h2 t2 =>
        cases t2
        cases h1
        cases h2
        exact ⟨_, rfl, hs⟩
theorem Dp.int_inv {i : Int} (h : Dp K H v (.int i)) : v = .int i := by
  cases h
  rfl
end
theorem isTup_inv {d : PyData} (h : isTup d = true) : ∃ ds, d = .tuple ds := by
  cases d <;> first | exact ⟨_, rfl⟩ | cases h
theorem isWhole_inv {d : PyData} (h : isWhole d = true) : ∃ i, d = .int i := by
  cases d <;> first | exact ⟨_, rfl⟩ | cases h
theorem isTerm_inv {p : Int} {d : PyData} (h : isTerm p d = true) : ∃ e c, d = .tuple [.int e, .int c] ∧ 1 ≤ c ∧ c < p := by
  unfold isTerm at h
  split at h
  · rename_i e c
    rw [Bool.and_eq_true, decide_eq_true_eq, decide_eq_true_eq] at h
    exact ⟨e, c, rfl, h.1, h.2⟩
  · cases h
def sp_is_whole (K : PySem.W.Frag) : Sp := fun vs H Q _ => ∃ (v : V) (d : PyData), vs = [v] ∧ DpX K H v d ∧ Q (.bl (isWhole d)) H
def sp_is_term (K : PySem.W.Frag) : Sp := fun vs H Q _ => ∃ (p : Int) (v : V) (d : PyData), vs = [.int p, v] ∧ Dp K H v d ∧ Q (.bl (isTerm p d)) H
def sp_is_polynomial (K : PySem.W.Frag) : Sp := fun vs H Q _ => ∃ (p : Int) (v : V) (d : PyData), vs = [.int p, v] ∧ DpX K H v d ∧ (∀ ds, d = .tuple ds → ds.length ≤ 1000000) ∧ ∀ H', Same H H' → Q (.bl (isPoly p d)) H'
def sp_is_effect (K : PySem.W.Frag) : Sp := fun vs H Q _ => ∃ (p : Int) (v : V) (d : PyData), vs = [.int p, v] ∧ DpX K H v d ∧ (∀ ds es, d = .tuple ds → PyData.tuple es ∈ ds → es.length ≤ 1000000) ∧ ∀ H', Same H H' → Q (.bl (isEff p d)) H'
/-- [f(x) for x in a tuple], f a truth value -/
theorem lcBool {K : PySem.W.Frag} {a : Addr} {xs : List V} {ds : List PyData} {σ : L2.St} {H : Hp} {vs : List Nat} {n i : Nat} {te : TE} {Q : VK} (f : PyData → Bool) (hv : σ[n]? = some (some (.ref a))) (hs : SqT K H a xs) (hP : DpAll K H xs ds) (hl : ds.length ≤ 1000000)
    (hw : ∀ x, wipe ((wipe σ vs).set i (some x)) vs = wipe σ vs)
    (he : ∀ x d H2, Same H H2 → Dp K H2 x d → ∀ R : VK, R (.bl (f d)) H2 → te ((wipe σ vs).set i (some x)) H2 R)
    (k : ∀ D H2, Same H H2 → H2 D = some (.lst ((ds.map f).map V.bl)) → Q (.ref D) H2) : tLc (iTup K (tVar n)) (gName i) tYes te vs σ H Q := by
  refine ⟨_, hv, a, rfl, ⟨_, hs⟩, fun D nD => lc_tup (K := K) (a := a) (xs := xs) (fun m H2 => Same H H2 ∧ H2 D = some (.lst (((ds.take m).map f).map V.bl))) ⟨same_new nD, upd_same⟩ (fun m H2 _ g => same_t g.1 hs) ?_ ?_⟩
  · rintro m x H2 hm ⟨s2, h2⟩
    obtain ⟨d, hd, hx⟩ := DpAll.get hP hm
    refine ⟨hw _, ?_⟩
    dsimp only [tYes]
    rw [if_pos rfl]
    have hm2 : m < ds.length := (List.getElem?_eq_some_iff.mp hd).1
    refine he x d H2 s2 (Dp.same s2 hx) _ ⟨_, h2, sl_lt (by rw [List.length_map, List.length_map, List.length_take]; omega), same_mut s2 nD, ?_⟩
    rw [upd_same, take_snoc hd, List.map_append, List.map_append]
    rfl
  · rintro H2 ⟨s2, h2⟩
    rw [DpAll.len hP, List.take_length] at h2
    exact k D H2 s2 h2
theorem cut1 (xs : List V) : cutV xs (some 1) none = xs.drop 1 := by
  unfold cutV
  rw [show HT.sIx xs.length 0 (some 1) = min 1 xs.length from HT.sIx_nat xs.length 0 1, HT.sIx_none]
  cases xs with
  | nil => rfl
  | cons x r =>
    rw [show min 1 (x :: r).length = 1 by
      rw [List.length_cons]
      omega]
    show (List.take ((x :: r).length - 1) r) = r
    rw [List.length_cons, Nat.add_sub_cancel]
    exact List.take_length
/-- the pairs of neighbours, compared -/
def ups : List PyData → List Bool
  | x :: y :: r => decide (expo x < expo y) :: ups (y :: r)
  | _ => []
theorem ups_len : ∀ ds : List PyData, (ups ds).length = ds.length - 1
  | [] => rfl
  | [_] => rfl
  | x :: y :: r => by
    show (ups (y :: r)).length + 1 = _
    rw [ups_len (y :: r)]
    show r.length + 1 - 1 + 1 = r.length + 1 + 1 - 1
    omega
theorem ups_get : ∀ (ds : List PyData) (i : Nat) (x y : PyData), ds[i]? = some x → ds[i + 1]? = some y → (ups ds)[i]? = some (decide (expo x < expo y))
  | [], _, _, _, h, _ => by simp at h
  | [_], 0, _, _, _, h => by simp at h
  | [_], i + 1, _, _, h, _ => by simp at h
  | a :: b :: r, 0, x, y, h, h2 => by
    have e1 : a = x := Option.some.inj h
    have e2 : b = y := Option.some.inj h2
    rw [← e1, ← e2]
    rfl
  | a :: b :: r, i + 1, x, y, h, h2 => ups_get (b :: r) i x y h h2
theorem ups_all : ∀ ds : List PyData, (ups ds).all id = ascD ds
  | [] => rfl
  | [_] => rfl
  | x :: y :: r => by
    show (decide (expo x < expo y) && (ups (y :: r)).all id) = _
    rw [ups_all (y :: r)]
    rfl
/-! ### what canonical polynomials and effects are told to be -/
theorem term_pr {p : Int} {t : Int × Int} (h : 0 < t.2 ∧ t.2 < p) : isTerm p (pr t) = true := by
  show (decide (1 ≤ t.2) && decide (t.2 < p)) = true
  rw [decide_eq_true (by omega), decide_eq_true h.2]
  rfl
theorem asc_prs : ∀ {g : Pol}, (g.Pairwise fun x y => x.1 < y.1) → ascD (g.map pr) = true
  | [], _ => rfl
  | [_], _ => rfl
  | t :: u :: r, h => by
    have a := List.pairwise_cons.mp h
    show (decide (t.1 < u.1) && ascD ((u :: r).map pr)) = true
    rw [decide_eq_true (a.1 u List.mem_cons_self), asc_prs a.2]
    rfl
theorem nf_poly {p : Int} {g : Pol} {F : Int → Int} (h : Nf p g F) : isPoly p (pd g) = true := by
  show ((g.map pr).all (isTerm p) && ascD (g.map pr)) = true
  rw [asc_prs h.asc, Bool.and_true, List.all_eq_true]
  intro x hx
  obtain ⟨t, ht, rfl⟩ := List.mem_map.mp hx
  exact term_pr (h.rng t ht)
theorem nf_eff {p : Int} {g : Pol} {F : Int → Int} (h : Nf p g F) (n : Int) : isEff p (ed g n) = true := by
  show (isPoly p (pd g) && true) = true
  rw [nf_poly h]
  rfl
/-- [t[0] < f[0] for t, f in zip(x, x[1:])] -/
theorem lcZip {K : PySem.W.Frag} {a b : Addr} {xs : List V} {ds : List PyData} {σ : L2.St} {H : Hp} {vs : List Nat} {i j : Nat} {te : TE} {Q : VK} (hs : SqT K H a xs) (hb : SqT K H b (xs.drop 1)) (hP : DpAll K H xs ds) (hl : ds.length ≤ 1000000)
    (hw : ∀ x y, wipe (((wipe σ vs).set i (some x)).set j (some y)) vs = wipe σ vs)
    (he : ∀ x y d d' H2, Same H H2 → d ∈ ds → d' ∈ ds → Dp K H2 x d → Dp K H2 y d' → ∀ R : VK, R (.bl (decide (expo d < expo d'))) H2 → te (((wipe σ vs).set i (some x)).set j (some y)) H2 R)
    (k : ∀ D H2, Same H H2 → H2 D = some (.lst ((ups ds).map V.bl)) → Q (.ref D) H2) : tLc (fun _ H R => R (RZ.ItzT K a b) H) (gTup K 2 (gCons (gName i) (gCons (gName j) gNil))) tYes te vs σ H Q := by
  intro D nD
  have hlen : xs.length = ds.length := DpAll.len hP
  refine ⟨fun m r H2 => m + r = ds.length - 1 ∧ Same H H2 ∧ H2 D = some (.lst (((ups ds).take m).map V.bl)), ⟨ds.length - 1, by omega, same_new nD, upd_same⟩, fun m r H2 hW => ?_⟩
  obtain ⟨em, s2, h2⟩ := hW
  have hA : SqT K H2 a xs := same_t s2 hs
  have hB : SqT K H2 b (xs.drop 1) := same_t s2 hb
  by_cases hm : m < ds.length - 1
  · have m1 : m < xs.length := by omega
    have m2 : m + 1 < xs.length := by omega
    have g1 : xs[m]? = some xs[m] := List.getElem?_eq_getElem m1
    have g2 : (xs.drop 1)[m]? = some xs[m + 1] := by
      rw [List.getElem?_drop, Nat.add_comm 1 m, List.getElem?_eq_getElem m2]
    obtain ⟨d, hd, hx⟩ := DpAll.get hP g1
    obtain ⟨d', hd', hy⟩ := DpAll.get hP (List.getElem?_eq_getElem m2)
    have gu := ups_get ds m d d' hd hd'
    refine .inr ⟨⟨xs, xs.drop 1, _, _, hA, hB, g1, g2⟩, fun H' => Same H H' ∧ H' D = some (.lst (((ups ds).take (m + 1)).map V.bl)), fun H' hN => ⟨r - 1, by omega, by omega, hN.1, hN.2⟩, fun v H' hy' => ?_⟩
    obtain ⟨T, x1, x2, rfl, nT, rfl, f1, f2⟩ := hy'
    have ex1 : x1 = xs[m] := Option.some.inj ((f1 _ hA).symm.trans g1)
    have ex2 : x2 = xs[m + 1] := Option.some.inj ((f2 _ hB).symm.trans g2)
    subst ex1
    subst ex2
    have sT : Same H2 (upd H2 T (.tup [xs[m], xs[m + 1]])) := same_new nT
    have s3 := s2.trans sT
    refine ⟨T, _, rfl, SqT.of upd_same, rfl, _, _, rfl, _, _, rfl, rfl, hw _ _, ?_⟩
    dsimp only [tYes]
    rw [if_pos rfl]
    refine he _ _ d d' _ s3 (List.mem_of_getElem? hd) (List.mem_of_getElem? hd') (Dp.same s3 hx) (Dp.same s3 hy) _ ⟨_, sT _ _ h2, sl_lt ?_, same_mut s3 nD, ?_⟩
    · rw [List.length_map, List.length_take]
      omega
    · rw [upd_same, take_snoc gu, List.map_append]
      rfl
  · refine .inl ⟨⟨xs, xs.drop 1, hA, hB, .inr ?_⟩, ?_⟩
    · rw [List.length_drop]
      omega
    · have e : m = ds.length - 1 := by omega
      rw [e, ← ups_len, List.take_length] at h2
      exact k D H2 s2 h2
theorem two {α : Type} {xs : List α} (h : xs.length = 2) : ∃ a b, xs = [a, b] := by
  match xs, h with
  | [a, b], _ => exact ⟨a, b, rfl⟩
end DR
namespace DR
open PySem PySem.Spec PyProof.Rows L2
/-! ### repr of any data, and of an empty dict -/
section
variable {X : Cx}
theorem call_reprX (hg : X.A.guards = some []) (hu : X.A.units + 100 < cLine) : CallR X (.builtin "repr") (fun xs H Q => ∃ (x : V) (d : PyData), xs = [x] ∧ DpX X.K H x d ∧ d.showable = true ∧ (d.hasDict = true → d = .dict []) ∧ d.depth ≤ 64 ∧ d.shown.length ≤ sizeLine ∧ Q (.str d.shown) H) := by
  intro pins s σ H xs us Q I r h
  obtain ⟨x, d, rfl, hd, hs, hn, hz, hl, q⟩ := h
  obtain ⟨u, rfl, rx⟩ := vals1 r
  rcases hd with hd | ⟨a, rfl, ha, rfl⟩
  · cases hd with
    | non =>
      obtain rfl : u = Value.none := rx
      exact PySem.P.repr_of_none ⟨.str _, H, I.tok _, ⟨_, rfl⟩, q⟩
    | bl b =>
      obtain rfl : u = Value.bool b := rx
      refine PySem.P.repr_of_bool ⟨.str _, H, I.tok _, ⟨_, rfl⟩, ?_⟩
      cases b <;> exact q
    | int i =>
      obtain ⟨t, rfl⟩ := rx
      exact PySem.P.repr_of_int (of_decide_eq_true hs) ⟨.str _, H, I.tok _, ⟨_, rfl⟩, q⟩
    | str y =>
      obtain ⟨t, rfl⟩ := rx
      exact PySem.P.repr_of_str ⟨.str _, H, I.tok _, ⟨_, rfl⟩, q⟩ hl
    | @lst a xs ds h1 h2 =>
      obtain rfl : u = Value.ref a := rx
      obtain ⟨as, rd⟩ := Dp.reads I _ _ _ (Dp.lst h1 h2) rfl
      refine repr_of_reads' rd hs (fun z => absurd (hn z) (by intro e; cases e)) hg (by omega) (fun _ _ e => e) (fun h' t tk hk => ?_) hl
      exact ⟨.str _, H, I.kept hk, ⟨t, rfl⟩, q⟩
    | @tup a xs ds h1 h2 =>
      obtain rfl : u = Value.ref a := rx
      obtain ⟨as, rd⟩ := Dp.reads I _ _ _ (Dp.tup h1 h2) rfl
      refine repr_of_reads' rd hs (fun z => absurd (hn z) (by intro e; cases e)) hg (by omega) (fun _ _ e => e) (fun h' t tk hk => ?_) hl
      exact ⟨.str _, H, I.kept hk, ⟨t, rfl⟩, q⟩
  · obtain rfl : u = Value.ref a := rx
    obtain ⟨z, lo, vs, rel, o, es, ep, e1, ex, e2, _, e4, _⟩ := dk_rd I.hok (Rd.of ha)
    cases rel
    have e5 : es.toList = [] := by
      cases h : es.toList with
      | nil => rfl
      | cons y ys =>
        rw [h] at e4
        cases e4
    have rd : Reads s.heap (.ref a) (.dict []) (a :: [] ++ []) := .dict (kvs := []) e1 ex.1 e2 (by rw [e5]; exact .nil) (by rw [e5]; exact .nil)
    refine repr_of_reads' rd hs (fun _ hm => ?_) hg (by omega) (fun _ _ e => e) (fun h' t tk hk => ?_) hl
    · have e6 : sysModules = a := by simpa using hm
      rw [e6] at lo
      simp at lo
    · exact ⟨.str _, H, I.kept hk, ⟨t, rfl⟩, q⟩
end
end DR
/-! ### t[::-1] of a tuple -/
namespace DRv
open PySem PySem.Spec PyProof.Rows L2 HT
section
variable {prog : Program} {w : World} {A : Around} {E : Value → Shared → Prop} {s : Shared}
theorem fm_congr {α β : Type} {f g : α → Option β} : ∀ {l : List α}, (∀ x ∈ l, f x = g x) → l.filterMap f = l.filterMap g
  | [], _ => rfl
  | x :: l, h => by
    rw [List.filterMap_cons, List.filterMap_cons, h x List.mem_cons_self, fm_congr fun y hy => h y (List.mem_cons_of_mem _ hy)]
theorem applied_back {sl : Addr} {vl vu vs : Value} {n : Nat} {Q : Int × Int × Nat → Shared → Prop} (hs : s.heap.IsSliceOf sl vl vu vs) (pl : IsPart vl none) (pu : IsPart vu none) (ps : IsPart vs (some (-1)))
    (h : Q ((n : Int) - 1, -1, n) s) : wpAny (model prog w) A (Builtin.Slice.sliceApplied (.ref sl) (pure (n : Int))) Q E s := by
  obtain ⟨os, hos, _, hds⟩ := hs
  unfold Builtin.Slice.sliceApplied
  unfold Builtin.Slice.sliceFields
  refine wpAny_bind (wpAny_bind (wpAny_field hos hds (x := vl) rfl (wpAny_bind (wpAny_field hos hds (x := vu) rfl (wpAny_bind (wpAny_field hos hds (x := vs) rfl (wpAny_pure ?_)))))))
  refine wpAny_bind (slicePart_ ps ?_)
  show wpAny _ _ (if ((-1 : Int) == 0) = true then _ else _) _ _ s
  rw [if_neg (by decide)]
  have both := fun R h => slicePart_ (prog := prog) (w := w) (A := A) (E := E) (s := s) (Q := R) pu h
  refine wpAny_bind (slicePart_ pl (wpAny_bind (both _ (wpAny_bind (wpAny_pure ?_)))))
  show wpAny _ _ (match Builtin.Slice.sliceAdjust none none (-1) (n : Int) with | (lo, hi) => pure (lo, (-1 : Int), Builtin.Slice.slicePlaces lo hi (-1))) _ _ s
  have e1 : Builtin.Slice.sliceAdjust none none (-1) (n : Int) = ((n : Int) - 1, -1) := by simp [Builtin.Slice.sliceAdjust]
  have e2 : Builtin.Slice.slicePlaces ((n : Int) - 1) (-1) (-1) = n := by
    simp [Builtin.Slice.slicePlaces]
    try omega
  rw [e1]
  show wpAny _ _ (pure ((n : Int) - 1, (-1 : Int), Builtin.Slice.slicePlaces ((n : Int) - 1) (-1) (-1))) _ _ s
  rw [e2]
  exact wpAny_pure h
theorem pick_back (xs : Array Value) : ((List.range xs.size).filterMap fun (m : Nat) => xs[(((xs.size : Int) - 1) + (m : Int) * -1).toNat]?).toArray = xs.toList.reverse.toArray := by
  congr 1
  have h : ∀ l : List Value, ((List.range l.length).filterMap fun (m : Nat) => l[(((l.length : Int) - 1) + (m : Int) * -1).toNat]?) = l.reverse := by
    intro l
    have e : (List.range l.length).filterMap (fun (m : Nat) => l[(((l.length : Int) - 1) + (m : Int) * -1).toNat]?) = (List.range l.length).filterMap (fun (m : Nat) => l.reverse[m]?) := by
      refine fm_congr fun m hm => ?_
      have hm := List.mem_range.mp hm
      rw [List.getElem?_reverse hm]
      congr 1
      omega
    rw [e]
    have r : ∀ k : List Value, (List.range k.length).filterMap (fun (m : Nat) => k[m]?) = k := by
      intro k
      induction k with
      | nil => rfl
      | cons a k ih =>
        rw [List.length_cons, List.range_succ_eq_map, List.filterMap_cons]
        simp only [List.getElem?_cons_zero, List.filterMap_map]
        congr 1
    have := r l.reverse
    rw [List.length_reverse] at this
    exact this
  have := h xs.toList
  rw [Array.length_toList] at this
  rw [← this]
  refine fm_congr fun m _ => ?_
  rw [Array.getElem?_toList]
theorem tuple_back {t sl : Addr} {items : Array Value} {vl vu vs : Value} {Q : Value → Shared → Prop} (ht : IsTup s.heap t items) (hs : s.heap.IsSliceOf sl vl vu vs) (pl : IsPart vl none) (pu : IsPart vu none) (ps : IsPart vs (some (-1)))
    (h : Q (.ref s.heap.objs.size) { s with heap := s.heap.push { cls := .type "tuple", data := .seq items.toList.reverse.toArray } }) (hsz : items.size ≤ sizeLine) : wpAny (model prog w) A (getItem (.ref t) (.ref sl)) Q E s := by
  have fits : sizeOk (.seq items.toList.reverse.toArray) := by
    show items.toList.reverse.toArray.size ≤ sizeLine
    rw [List.size_toArray, List.length_reverse, Array.length_toList]
    exact hsz
  have ty : s.TypeIs (.ref sl) "slice" := hs.elim fun os z => ⟨os, z.1, z.2.1⟩
  unfold getItem
  try with_reducible refine wpAny_holding ?_
  first | refine wpAny_bind (wpAny_pure ?_) | skip
  refine wpAny_bind (wpAny_sequenceKey ht.typeIs (by decide) ?_)
  refine wpAny_bind (wpAny_callSpecial?_slot (name := Str.ofString "__getitem__") ht.typeIs slot_tuple_getitem (wpAny_call_entry slot_tuple_getitem ht.typeIs entry_tuple_getitem ?_ (args_tuple_getitem _ _)))
  show wpAny _ _ (Builtin.Tuple.tupleItemsOf (.ref t) >>= _) _ _ s
  refine wpAny_bind (tupleItemsOf_ ht (wpAny_bind (wpAny_typeOf ty ?_)))
  rw [if_pos (by decide)]
  refine wpAny_bind (applied_back hs pl pu ps ?_)
  have no : ¬ ((((items.size : Int) - 1) == 0 && (-1 : Int) == 1 && items.size == items.size) = true) := by
    intro q
    have two := (Bool.and_eq_true _ _ ▸ (Bool.and_eq_true _ _ ▸ q).1).2
    exact absurd two (by decide)
  show wpAny _ _ (if (((items.size : Int) - 1) == 0 && (-1 : Int) == 1 && items.size == items.size) = true then _ else _) _ _ s
  rw [if_neg no, pick_back]
  first
    | exact wpAny_bind (m := Builtin.Tuple.tupleExact _) (wpAny_newObj_type (wpAny_pure ⟨_, rfl, wpAny_pure h⟩) fits)
    | exact wpAny_bind (m := Builtin.Tuple.tupleExact _) (wpAny_newObj_type (wpAny_bind (wpAny_pure (wpAny_pure ⟨_, rfl, wpAny_pure h⟩))) fits)
    | exact wpAny_bind (wpAny_bind (m := Builtin.Tuple.tupleExact _) (wpAny_newObj_type (wpAny_pure (wpAny_pure ⟨_, rfl, wpAny_pure h⟩)) fits))
    | exact wpAny_bind (wpAny_bind (m := Builtin.Tuple.tupleExact _) (wpAny_newObj_type (wpAny_pure ⟨_, rfl, wpAny_pure h⟩) fits))
end
section
variable {X : Cx}
def tRevT (K : PySem.W.Frag) (te : TE) : TE := fun σ H Q => te σ H fun x H1 => ∃ a xs, x = .ref a ∧ SqT K H1 a xs ∧ ∀ p, H1 p = none → Q (.ref p) (upd H1 p (.tup xs.reverse))
theorem pe_revT {e : Expr} {te : TE} {k : Nat} {p1 p2 p3 pos : Pos} (he : PE X e te) : PE X (.Subscript e (.Slice none none (some (.UnaryOp .USub (.Constant (.int 1) k p1) p2)) p3) pos) (tRevT X.K te) := by
  refine ⟨fun pins s σ H Q I h => Subscript_ (thn (he.run pins s σ H _ I h) fun v s1 ⟨x, H1, I1, r1, q1⟩ => ?_)⟩
  obtain ⟨a, xs, rfl, hx, q⟩ := q1
  cases r1
  have step : PO X (some (.UnaryOp .USub (.Constant (.int 1) k p1) p2)) (tPart (tUn (rU fun i => .int (-i)) (tC (.int 1)))) := po_some (pe_un un_neg pe_int)
  refine wpAny_Slice (thn (po_none.run pins s1 σ H1 (fun o G => o = none ∧ G = H1) I1 ⟨rfl, rfl⟩) fun vl s2 ⟨l, G2, I2, pl, el, eG⟩ => ?_)
  subst el eG
  refine thn (po_none.run pins s2 σ G2 (fun o G => o = none ∧ G = G2) I2 ⟨rfl, rfl⟩) fun vu s3 ⟨u, G3, I3, pu, eu, eG⟩ => ?_
  subst eu eG
  refine thn (step.run pins s3 σ G3 (fun o G => o = some (-1) ∧ G = G3) I3 ⟨1, rfl, -1, rfl, rfl, rfl⟩) fun vs s4 ⟨o, G4, I4, ps, eo, eG⟩ => ?_
  subst eo eG
  have I5 : Inv X pins σ G4 { s4 with heap := s4.heap.push { cls := .type "slice", data := .fields #[vl, vu, vs] } } := I4.kept (t' := s4.toks) fun b ob q => Heap.get?_push_of_some _ q
  obtain ⟨its, r, ht, hz⟩ := I5.tuple hx
  have len := r.length
  show wpAny (model X.prog X.w) X.A (subscriptTail e (.Slice none none (some (.UnaryOp .USub (.Constant (.int 1) k p1) p2)) p3) (.ref a) (.ref s4.heap.objs.size)) (EP X pins σ Q) X.xe { s4 with heap := s4.heap.push { cls := .type "slice", data := .fields #[vl, vu, vs] } }
  refine tail_any (ops := [.ref a, .ref s4.heap.objs.size]) ht.typeIs slot_tuple_getitem.lookup ?_ (by with_unfolding_all rfl)
  refine tuple_back ht (Heap.IsSliceOf.new _ vl vu vs) pl pu ps ?_ (by rw [List.size_toArray]; omega)
  refine ⟨.ref _, _, I5.laid (t' := s4.toks) (o := .tup xs.reverse) (fun b ob q => Heap.get?_push_of_some _ q) (Nat.le_refl _) ?_, rfl, q _ (I5.hok.fresh (Nat.le_refl _))⟩
  exact ⟨by rw [List.length_reverse]; exact hz, its.reverse, r.reverse, _, Heap.get?_push_size _ rfl, rfl, 0, rfl⟩
end
end DRv
namespace DR
open PySem PySem.Spec PyProof.Rows L2
/-! ### values that may be shown and told of -/
def tupLen : PyData → Nat
  | .tuple es => es.length
  | _ => 0
/-- data that is shown in n signs at most, k deep at most -/
structure Fits (n k : Nat) (d : PyData) : Prop where
  sh : d.showable = true
  nd : d.hasDict = false
  dp : d.depth ≤ k
  ln : d.shown.length ≤ n
theorem Fits.up {n k n' k' : Nat} {d : PyData} (h : Fits n k d) (a : n ≤ n') (b : k ≤ k') : Fits n' k' d := ⟨h.sh, h.nd, Nat.le_trans h.dp b, Nat.le_trans h.ln a⟩
theorem fits_int {i : Int} (h : i.natAbs < 10 ^ 100) : Fits 101 0 (.int i) := ⟨(int_shows h).1, rfl, Nat.le_refl _, (int_shows h).2⟩
theorem fits_pd {g : Pol} (h : Sm g) : Fits (211 * g.length + 3) 2 (pd g) := ⟨(pd_shows h).1, (pd_shows h).2.1, (pd_shows h).2.2.1, (pd_shows h).2.2.2⟩
theorem fits_list {g : Pol} (h : Sm g) : Fits (211 * g.length + 3) 2 (.list (g.map pr)) := by
  obtain ⟨a1, a2, a3, a4, a5⟩ := prs_shows g h.abs
  refine ⟨a1, a2, ?_, ?_⟩
  · show PyData.depthAll (g.map pr) + 1 ≤ 2
    omega
  · show (listText (PyData.shownAll (g.map pr))).length ≤ _
    have := listText_len_le (PyData.shownAll (g.map pr))
    rw [a5] at this
    omega
theorem fits_1 {n k : Nat} {d : PyData} (h : Fits n k d) : Fits (n + 5) (k + 1) (.tuple [d]) := by
  obtain ⟨a, b, c, e⟩ := h
  refine ⟨?_, ?_, ?_, ?_⟩
  · show (d.showable && true) = true
    rw [a]
    rfl
  · show (d.hasDict || false) = false
    rw [b]
    rfl
  · show max d.depth 0 + 1 ≤ k + 1
    omega
  · show (tupleText [d.shown]).length ≤ _
    have := tupleText_len_le [d.shown]
    simp only [List.map_cons, List.map_nil, List.sum_cons, List.sum_nil, List.length_cons, List.length_nil] at this
    omega
theorem fits_2 {n k n' k' : Nat} {d d' : PyData} (h : Fits n k d) (h' : Fits n' k' d') : Fits (n + n' + 7) (max k k' + 1) (.tuple [d, d']) := by
  obtain ⟨a, b, c, e⟩ := h
  obtain ⟨a', b', c', e'⟩ := h'
  refine ⟨?_, ?_, ?_, ?_⟩
  · show (d.showable && (d'.showable && true)) = true
    rw [a, a']
    rfl
  · show (d.hasDict || (d'.hasDict || false)) = false
    rw [b, b']
    rfl
  · show max d.depth (max d'.depth 0) + 1 ≤ max k k' + 1
    omega
  · show (tupleText [d.shown, d'.shown]).length ≤ _
    have := tupleText_len_le [d.shown, d'.shown]
    simp only [List.map_cons, List.map_nil, List.sum_cons, List.sum_nil, List.length_cons, List.length_nil] at this
    omega
theorem fits_l2 {n k n' k' : Nat} {d d' : PyData} (h : Fits n k d) (h' : Fits n' k' d') : Fits (n + n' + 7) (max k k' + 1) (.list [d, d']) := by
  obtain ⟨a, b, c, e⟩ := h
  obtain ⟨a', b', c', e'⟩ := h'
  refine ⟨?_, ?_, ?_, ?_⟩
  · show (d.showable && (d'.showable && true)) = true
    rw [a, a']
    rfl
  · show (d.hasDict || (d'.hasDict || false)) = false
    rw [b, b']
    rfl
  · show max d.depth (max d'.depth 0) + 1 ≤ max k k' + 1
    omega
  · show (listText [d.shown, d'.shown]).length ≤ _
    have := listText_len_le [d.shown, d'.shown]
    simp only [List.map_cons, List.map_nil, List.sum_cons, List.sum_nil, List.length_cons, List.length_nil] at this
    omega
theorem fits_3 {n k n' k' n2 k2 : Nat} {d d' d2 : PyData} (h : Fits n k d) (h' : Fits n' k' d') (h2 : Fits n2 k2 d2) : Fits (n + n' + n2 + 9) (max k (max k' k2) + 1) (.tuple [d, d', d2]) := by
  obtain ⟨a, b, c, e⟩ := h
  obtain ⟨a', b', c', e'⟩ := h'
  obtain ⟨a2, b2, c2, e2⟩ := h2
  refine ⟨?_, ?_, ?_, ?_⟩
  · show (d.showable && (d'.showable && (d2.showable && true))) = true
    rw [a, a', a2]
    rfl
  · show (d.hasDict || (d'.hasDict || (d2.hasDict || false))) = false
    rw [b, b', b2]
    rfl
  · show max d.depth (max d'.depth (max d2.depth 0)) + 1 ≤ _
    omega
  · show (tupleText [d.shown, d'.shown, d2.shown]).length ≤ _
    have := tupleText_len_le [d.shown, d'.shown, d2.shown]
    simp only [List.map_cons, List.map_nil, List.sum_cons, List.sum_nil, List.length_cons, List.length_nil] at this
    omega
/-- what repr and is_effect ask -/
structure Shw (d : PyData) : Prop where
  sh : d.showable = true
  nd : d.hasDict = true → d = .dict []
  dp : d.depth ≤ 64
  ln : d.shown.length ≤ sizeLine
  tl : tupLen d ≤ 1000000
  it : ∀ ds, d = .tuple ds → ∀ x ∈ ds, tupLen x ≤ 1000000
theorem Fits.shw {n k : Nat} {d : PyData} (h : Fits n k d) (hn : n ≤ 1000000) (hk : k ≤ 64) (tl : tupLen d ≤ 1000000) (it : ∀ ds, d = .tuple ds → ∀ x ∈ ds, tupLen x ≤ 1000000) : Shw d :=
  ⟨h.sh, (fun z => by rw [h.nd] at z; cases z), Nat.le_trans h.dp hk, sl_of (Nat.le_trans h.ln hn), tl, it⟩
theorem it_2 {a b : PyData} (h1 : tupLen a ≤ 1000000) (h2 : tupLen b ≤ 1000000) : ∀ ds, PyData.tuple [a, b] = .tuple ds → ∀ x ∈ ds, tupLen x ≤ 1000000 := fun ds e x hx => by
  cases PyData.tuple.inj e
  rcases List.mem_cons.mp hx with z | hx
  · rw [z]; exact h1
  rcases List.mem_cons.mp hx with z | hx
  · rw [z]; exact h2
  · exact absurd hx List.not_mem_nil
def Good (K : PySem.W.Frag) (H : Hp) (v : V) : Prop := ∃ d, DpX K H v d ∧ Shw d
section
variable {K : PySem.W.Frag} {H H' : Hp} {v : V} {l : List V}
theorem Good.same (e : Same H H') (h : Good K H v) : Good K H' v := h.elim fun d z => ⟨d, DpX.same e z.1, z.2⟩
theorem good_nil : ∀ w ∈ ([] : List V), Good K H w := fun w h => absurd h List.not_mem_nil
theorem good_cons (h : Good K H v) (t : ∀ w ∈ l, Good K H w) : ∀ w ∈ v :: l, Good K H w := fun w hw => (List.mem_cons.mp hw).elim (fun e => e ▸ h) (t w)
theorem goods_same (e : Same H H') (h : ∀ w ∈ l, Good K H w) : ∀ w ∈ l, Good K H' w := fun w hw => Good.same e (h w hw)
theorem kp_l {p c : Addr} {n : Nat} {a : Addr} {xs : List V} (pen : PenAt H p c n) (k : Kp p H H') (h : SqL K H a xs) : SqL K H' a xs := by
  obtain ⟨kvs, hp⟩ := pen.dict
  rcases h with (h | ⟨o, h⟩) | h
  · exact .inl (.inl (k _ _ (ne_of h hp (by intro z; cases z)) h))
  · exact .inl (.inr ⟨o, k _ _ (ne_of h hp (by intro z; cases z)) h⟩)
  · exact .inr h
mutual
theorem Dp.kp {p c : Addr} {n : Nat} (pen : PenAt H p c n) (k : Kp p H H') : ∀ {v : V} {d : PyData}, Dp K H v d → Dp K H' v d
  | _, _, .non => .non
  | _, _, .bl b => .bl b
  | _, _, .int i => .int i
  | _, _, .str x => .str x
  | _, _, .lst hs ha => .lst (kp_l pen k hs) (DpAll.kp pen k ha)
  | _, _, .tup hs ha => .tup (tp_t (pen.tp k) hs) (DpAll.kp pen k ha)
theorem DpAll.kp {p c : Addr} {n : Nat} (pen : PenAt H p c n) (k : Kp p H H') : ∀ {vs : List V} {ds : List PyData}, DpAll K H vs ds → DpAll K H' vs ds
  | _, _, .nil => .nil
  | _, _, .cons h t => .cons (Dp.kp pen k h) (DpAll.kp pen k t)
end
theorem Good.kp {p c : Addr} {n : Nat} (pen : PenAt H p c n) (k : Kp p H H') (h : Good K H v) : Good K H' v := by
  obtain ⟨d, hd | ⟨a, e1, e2, e3⟩, s⟩ := h
  · exact ⟨d, .inl (Dp.kp pen k hd), s⟩
  · obtain ⟨ns, u, l, hp, _⟩ := pen.ex
    refine ⟨d, .inr ⟨a, e1, k _ _ (ne_of e2 hp (fun z => ?_)) e2, e3⟩, s⟩
    injection z with z
    cases z
end
def sp__law_odd_value (K : PySem.W.Frag) : Sp := fun vs H Q _ => ∃ (p c : Addr) (n : Nat), vs = [.ref p] ∧ PenAt H p c n ∧ n < 2 ^ 38 ∧ ∀ v H', Kp p H H' → PenAt H' p c (n + 1) → Good K H' v → Q v H'
/-- order of any effect -/
def ordV (p : Int) (f : Pol) (m : Int) : V := if m = 0 then .int (if f = [] then 1 else p) else .non
def sp_orderG (K : PySem.W.Frag) : Sp := fun vs H Q _ => ∃ (p : Int) (v : V) (f : Pol) (m : Int), vs = [.int p, v] ∧ TEff K H v f m ∧ Q (ordV p f m) H
/-- is_effect as the law tells it, term by term -/
def chk (p : Int) : Option Int → List PyData → Bool
  | _, [] => true
  | last, d :: r => isTerm p d && ((match last with | none => true | some l => decide (l < expo d)) && chk p (some (expo d)) r)
theorem chk_some (p : Int) : ∀ (r : List PyData) (d : PyData), chk p (some (expo d)) r = (r.all (isTerm p) && ascD (d :: r))
  | [], d => rfl
  | x :: r, d => by
    show (isTerm p x && (decide (expo d < expo x) && chk p (some (expo x)) r)) = ((isTerm p x && r.all (isTerm p)) && (decide (expo d < expo x) && ascD (x :: r)))
    rw [chk_some p r x]
    cases isTerm p x <;> cases decide (expo d < expo x) <;> cases r.all (isTerm p) <;> cases ascD (x :: r) <;> rfl
theorem chk_none (p : Int) (ds : List PyData) : chk p none ds = isPoly p (.tuple ds) := by
  cases ds with
  | nil => rfl
  | cons d r =>
    show (isTerm p d && (true && chk p (some (expo d)) r)) = ((isTerm p d && r.all (isTerm p)) && ascD (d :: r))
    rw [chk_some]
    cases isTerm p d <;> cases r.all (isTerm p) <;> cases ascD (d :: r) <;> rfl
end DR
namespace DR
open PySem PySem.Spec PyProof.Rows L2
/-! ### values laid out by hand -/
def shwB (d : PyData) : Bool := d.showable && (!d.hasDict || (match d with | .dict [] => true | _ => false)) && decide (d.depth ≤ 64) && decide (d.shown.length ≤ 1000000) && decide (tupLen d ≤ 1000000) && (match d with | .tuple ds => ds.all (fun x => decide (tupLen x ≤ 1000000)) | _ => true)
theorem shw_of {d : PyData} (h : shwB d = true) : Shw d := by
  simp only [shwB, Bool.and_eq_true] at h
  obtain ⟨⟨⟨⟨⟨h1, h2⟩, h3⟩, h4⟩, h5⟩, h6⟩ := h
  refine ⟨h1, fun z => ?_, of_decide_eq_true h3, sl_of (of_decide_eq_true h4), of_decide_eq_true h5, ?_⟩
  · rw [z] at h2
    cases d with
    | dict l =>
      cases l with
      | nil => rfl
      | cons _ _ => cases h2
    | _ => cases h2
  · rintro ds rfl x hx
    exact of_decide_eq_true (List.all_eq_true.mp h6 x hx)
structure Nice (n k : Nat) (d : PyData) : Prop where
  f : Fits n k d
  tl : tupLen d ≤ 1000000
  it : ∀ ds, d = .tuple ds → ∀ x ∈ ds, tupLen x ≤ 1000000
theorem Nice.up {n k n' k' : Nat} {d : PyData} (h : Nice n k d) (a : n ≤ n') (b : k ≤ k') : Nice n' k' d := ⟨h.f.up a b, h.tl, h.it⟩
theorem nice_int {i : Int} (h : i.natAbs < 10 ^ 100) : Nice 101 0 (.int i) := ⟨fits_int h, Nat.zero_le _, fun _ e => by cases e⟩
theorem nice_of {n k : Nat} {d : PyData} (a : d.showable = true) (b : d.hasDict = false) (c : d.depth ≤ k) (e : d.shown.length ≤ n) (t : tupLen d ≤ 1000000) (i : ∀ ds, d = .tuple ds → ∀ x ∈ ds, tupLen x ≤ 1000000) : Nice n k d := ⟨⟨a, b, c, e⟩, t, i⟩
theorem nice_pd {g : Pol} (h : Sm g) (hl : g.length ≤ 101) : Nice 22000 2 (pd g) := ⟨(fits_pd h).up (by omega) (Nat.le_refl _), by
  show (g.map pr).length ≤ _
  rw [List.length_map]
  omega, fun ds e x hx => by
  cases PyData.tuple.inj e
  obtain ⟨t, _, rfl⟩ := List.mem_map.mp hx
  show 2 ≤ 1000000
  decide⟩
theorem nice_lpd {g : Pol} (h : Sm g) (hl : g.length ≤ 101) : Nice 22000 2 (.list (g.map pr)) := ⟨(fits_list h).up (by omega) (Nat.le_refl _), Nat.zero_le _, fun ds e => by cases e⟩
theorem nice_1 {n k : Nat} {d : PyData} (h : Nice n k d) : Nice (n + 5) (k + 1) (.tuple [d]) := ⟨fits_1 h.f, (show 1 ≤ 1000000 by decide), fun ds e x hx => by
  cases PyData.tuple.inj e
  rcases List.mem_cons.mp hx with z | hx
  · rw [z]; exact h.tl
  · exact absurd hx List.not_mem_nil⟩
theorem nice_2 {n k n' k' : Nat} {d d' : PyData} (h : Nice n k d) (h' : Nice n' k' d') : Nice (n + n' + 7) (max k k' + 1) (.tuple [d, d']) := ⟨fits_2 h.f h'.f, (show 2 ≤ 1000000 by decide), it_2 h.tl h'.tl⟩
theorem nice_l2 {n k n' k' : Nat} {d d' : PyData} (h : Nice n k d) (h' : Nice n' k' d') : Nice (n + n' + 7) (max k k' + 1) (.list [d, d']) := ⟨fits_l2 h.f h'.f, Nat.zero_le _, fun ds e => by cases e⟩
theorem nice_3 {n k n' k' n2 k2 : Nat} {d d' d2 : PyData} (h : Nice n k d) (h' : Nice n' k' d') (h2 : Nice n2 k2 d2) : Nice (n + n' + n2 + 9) (max k (max k' k2) + 1) (.tuple [d, d', d2]) := ⟨fits_3 h.f h'.f h2.f, (show 3 ≤ 1000000 by decide), fun ds e x hx => by
  cases PyData.tuple.inj e
  rcases List.mem_cons.mp hx with z | hx
  · rw [z]; exact h.tl
  rcases List.mem_cons.mp hx with z | hx
  · rw [z]; exact h'.tl
  rcases List.mem_cons.mp hx with z | hx
  · rw [z]; exact h2.tl
  · exact absurd hx List.not_mem_nil⟩
def FA (K : PySem.W.Frag) (H : Hp) (v : V) : Prop := ∃ d, Dp K H v d ∧ Nice 25000 3 d
def FB (K : PySem.W.Frag) (H : Hp) (v : V) : Prop := ∃ d, Dp K H v d ∧ Nice 100000 4 d
section
variable {K : PySem.W.Frag} {H : Hp} {b : Addr}
theorem dn_tup (nb : H b = none) (xs : List V) (ds : List PyData) (hd : DpAll K (upd H b (.tup xs)) xs ds) : Dp K (upd H b (.tup xs)) (.ref b) (.tuple ds) := .tup (SqT.of upd_same) hd
theorem dn_lst (nb : H b = none) (xs : List V) (ds : List PyData) (hd : DpAll K (upd H b (.lst xs)) xs ds) : Dp K (upd H b (.lst xs)) (.ref b) (.list ds) := .lst (SqL.of upd_same) hd
theorem dn_dct (nb : H b = none) : DpX K (upd H b (.dK [])) (.ref b) (.dict []) := .inr ⟨b, rfl, upd_same, rfl⟩
theorem same_top (nb : H b = none) (o : HO) : Same (upd H b o) (upd H b o) := Same.refl _

variable {H' : Hp} {v w x : V} {Q : VK}
theorem FA.same (e : Same H H') (h : FA K H v) : FA K H' v := h.elim fun d z => ⟨d, Dp.same e z.1, z.2⟩
theorem FB.same (e : Same H H') (h : FB K H v) : FB K H' v := h.elim fun d z => ⟨d, Dp.same e z.1, z.2⟩
theorem FA.kp {p c : Addr} {n : Nat} (pen : PenAt H p c n) (k : Kp p H H') (h : FA K H v) : FA K H' v := h.elim fun d z => ⟨d, Dp.kp pen k z.1, z.2⟩
theorem FB.kp {p c : Addr} {n : Nat} (pen : PenAt H p c n) (k : Kp p H H') (h : FB K H v) : FB K H' v := h.elim fun d z => ⟨d, Dp.kp pen k z.1, z.2⟩
theorem FA.fb (h : FA K H v) : FB K H v := h.elim fun d z => ⟨d, z.1, z.2.up (by decide) (by decide)⟩
theorem FB.good (h : FB K H v) : Good K H v := h.elim fun d z => ⟨d, .inl z.1, z.2.f.shw (by decide) (by decide) z.2.tl z.2.it⟩
theorem fa_int {i : Int} (h : i.natAbs < 10 ^ 100) : FA K H (.int i) := ⟨_, .int i, (nice_int h).up (by decide) (by decide)⟩
theorem fb_t1 (nb : H b = none) (h : FA K H v) : FB K (upd H b (.tup [v])) (.ref b) := h.elim fun d z => ⟨_, dn_tup nb _ _ (.cons (Dp.same (same_new nb) z.1) .nil), (nice_1 z.2).up (by decide) (by decide)⟩
theorem fb_t2 (nb : H b = none) (h : FA K H v) (h' : FA K H w) : FB K (upd H b (.tup [v, w])) (.ref b) := h.elim fun d z => h'.elim fun d' z' => ⟨_, dn_tup nb _ _ (.cons (Dp.same (same_new nb) z.1) (.cons (Dp.same (same_new nb) z'.1) .nil)), (nice_2 z.2 z'.2).up (by decide) (by decide)⟩
theorem fb_l2 (nb : H b = none) (h : FA K H v) (h' : FA K H w) : FB K (upd H b (.lst [v, w])) (.ref b) := h.elim fun d z => h'.elim fun d' z' => ⟨_, dn_lst nb _ _ (.cons (Dp.same (same_new nb) z.1) (.cons (Dp.same (same_new nb) z'.1) .nil)), (nice_l2 z.2 z'.2).up (by decide) (by decide)⟩
theorem fb_t3 (nb : H b = none) (h : FA K H v) (h' : FA K H w) (h2 : FA K H x) : FB K (upd H b (.tup [v, w, x])) (.ref b) := h.elim fun d z => h'.elim fun d' z' => h2.elim fun d2 z2 => ⟨_, dn_tup nb _ _ (.cons (Dp.same (same_new nb) z.1) (.cons (Dp.same (same_new nb) z'.1) (.cons (Dp.same (same_new nb) z2.1) .nil))), (nice_3 z.2 z'.2 z2.2).up (by decide) (by decide)⟩
theorem DpAll.append : ∀ {xs ys : List V} {ds es : List PyData}, DpAll K H xs ds → DpAll K H ys es → DpAll K H (xs ++ ys) (ds ++ es)
  | _, _, _, _, .nil, t => t
  | _, _, _, _, .cons h r, t => .cons h (DpAll.append r t)
theorem DpAll.rev : ∀ {xs : List V} {ds : List PyData}, DpAll K H xs ds → DpAll K H xs.reverse ds.reverse
  | _, _, .nil => .nil
  | _, _, .cons h r => by
    rw [List.reverse_cons, List.reverse_cons]
    exact DpAll.append (DpAll.rev r) (.cons h .nil)
theorem Sm.rev {g : Pol} (h : Sm g) : Sm g.reverse := ⟨by rw [List.length_reverse]; exact h.len, fun t ht => h.abs t (List.mem_reverse.mp ht)⟩
theorem Sm.snoc {g : Pol} (h : Sm g) (hl : g.length ≤ 100) : Sm (g ++ [(0, 1)]) := ⟨by rw [List.length_append]; show g.length + 1 ≤ _; omega, fun t ht => by
  rcases List.mem_append.mp ht with z | z
  · exact h.abs t z
  · cases List.mem_singleton.mp z
    decide⟩
/-- a heap without the lists that another one holds -/
def er (H0 H : Hp) : Hp := fun b => match H0 b with | some (.lst _) => none | _ => H b
theorem er_at {H0 : Hp} {o : HO} (h : er H0 H b = some o) : H b = some o ∧ ∀ xs, H0 b ≠ some (.lst xs) := by
  unfold er at h
  split at h
  · cases h
  · next h2 => exact ⟨h, fun xs e => h2 xs e⟩
theorem er_of {H0 : Hp} {o : HO} (h : H b = some o) (n : ∀ xs, H0 b ≠ some (.lst xs)) : er H0 H b = some o := by
  unfold er
  split
  · next xs e => exact absurd e (n xs)
  · exact h
theorem er_sub (H0 H : Hp) : Same (er H0 H) H := fun b o e => (er_at e).1
theorem er_same {H0 : Hp} (s : Same H H') : Same (er H0 H) (er H0 H') := fun b o e => er_of (s _ _ (er_at e).1) (er_at e).2
theorem er_kp {H0 : Hp} {p : Addr} (k : Kp p H H') : Kp p (er H0 H) (er H0 H') := fun b o nb e => er_of (k _ _ nb (er_at e).1) (er_at e).2
/-- lists stay -/
def Al (H0 H : Hp) : Prop := ∀ b xs, H0 b = some (.lst xs) → H b ≠ none
theorem Al.refl (H : Hp) : Al H H := fun b xs e z => by rw [e] at z; cases z
theorem Al.same {H0 : Hp} (h : Al H0 H) (s : Same H H') : Al H0 H' := fun b xs e z => by
  cases hb : H b with
  | none => exact h b xs e hb
  | some o => rw [s _ _ hb] at z; cases z
theorem Al.kp {H0 : Hp} {p c : Addr} {n : Nat} (h : Al H0 H) (k : Kp p H H') (pen : PenAt H' p c n) : Al H0 H' := fun b xs e z => by
  by_cases hp : b = p
  · subst hp
    obtain ⟨kvs, d⟩ := pen.dict
    rw [z] at d
    cases d
  · cases hb : H b with
    | none => exact h b xs e hb
    | some o => rw [k _ _ hp hb] at z; cases z
theorem er_new {H0 : Hp} {o : HO} (s : Al H0 H) (nb : H b = none) : Same (upd (er H0 H) b o) (er H0 (upd H b o)) := fun a u e => by
  by_cases h : a = b
  · subst h
    rw [upd_same] at e
    exact er_of (by rw [upd_same]; exact e) fun xs z => s _ _ z nb
  · rw [upd_ne h] at e
    refine er_of ?_ (er_at e).2
    rw [upd_ne h]
    exact (er_at e).1
theorem er_none {H0 : Hp} (nb : H b = none) : er H0 H b = none := by
  unfold er
  split
  · rfl
  · exact nb
theorem er_tp (H : Hp) : Tp H (er H H) := ⟨fun b xs e => er_of e fun ys z => (by rw [e] at z; cases z), fun b o u e => er_of e fun ys z => (by rw [e] at z; cases z)⟩
theorem cat_pol {a c : Addr} {xs : List V} {e : V} (ha : SqT K H a xs) (hb : SqT K H b [e]) (hl : xs.length ≤ 1000) (k0 : xs = [] → Q (.ref b) H) (k : ∀ p, H p = none → Q (.ref p) (upd H p (.tup (xs ++ [e])))) : rCatA K (.ref a) (.ref b) H Q :=
  ⟨a, b, xs, _, rfl, rfl, ha, hb, sl_of (show xs.length + 1 ≤ 1000000 by omega), k0, fun _ z => (by cases z), fun _ _ p np => k p np⟩
theorem tp_kp {p : Addr} {kvs : List (Key × V)} (hp : H p = some (.dK kvs)) (k : Kp p H H') : Tp H H' := ⟨fun b xs e => k _ _ (ne_of e hp (by intro z; cases z)) e, fun b o u e => k _ _ (ne_of e hp (by intro z; cases z)) e⟩
theorem kpd_l {p : Addr} {kvs : List (Key × V)} {a : Addr} {xs : List V} (hp : H p = some (.dK kvs)) (k : Kp p H H') (h : SqL K H a xs) : SqL K H' a xs := by
  rcases h with (h | ⟨o, h⟩) | h
  · exact .inl (.inl (k _ _ (ne_of h hp (by intro z; cases z)) h))
  · exact .inl (.inr ⟨o, k _ _ (ne_of h hp (by intro z; cases z)) h⟩)
  · exact .inr h
mutual
theorem Dp.kpd {p : Addr} {kvs : List (Key × V)} (hp : H p = some (.dK kvs)) (k : Kp p H H') : ∀ {v : V} {d : PyData}, Dp K H v d → Dp K H' v d
  | _, _, .non => .non
  | _, _, .bl b => .bl b
  | _, _, .int i => .int i
  | _, _, .str x => .str x
  | _, _, .lst hs ha => .lst (kpd_l hp k hs) (DpAll.kpd hp k ha)
  | _, _, .tup hs ha => .tup (tp_t (tp_kp hp k) hs) (DpAll.kpd hp k ha)
theorem DpAll.kpd {p : Addr} {kvs : List (Key × V)} (hp : H p = some (.dK kvs)) (k : Kp p H H') : ∀ {vs : List V} {ds : List PyData}, DpAll K H vs ds → DpAll K H' vs ds
  | _, _, .nil => .nil
  | _, _, .cons h t => .cons (Dp.kpd hp k h) (DpAll.kpd hp k t)
end
theorem FA.kpd {H0 : Hp} {p c c' : Addr} {n n' : Nat} (pen0 : PenAt H0 p c n) (pen : PenAt H p c' n') (k : Kp p H H') (h : FA K (er H0 H) v) : FA K (er H0 H') v := h.elim fun d z => by
  obtain ⟨kvs, hp⟩ := pen.dict
  obtain ⟨kvs0, hp0⟩ := pen0.dict
  exact ⟨d, Dp.kpd (er_of hp fun xs e => by rw [hp0] at e; cases e) (er_kp k) z.1, z.2⟩
theorem FB.kpd {H0 : Hp} {p c c' : Addr} {n n' : Nat} (pen0 : PenAt H0 p c n) (pen : PenAt H p c' n') (k : Kp p H H') (h : FB K (er H0 H) v) : FB K (er H0 H') v := h.elim fun d z => by
  obtain ⟨kvs, hp⟩ := pen.dict
  obtain ⟨kvs0, hp0⟩ := pen0.dict
  exact ⟨d, Dp.kpd (er_of hp fun xs e => by rw [hp0] at e; cases e) (er_kp k) z.1, z.2⟩
theorem all_nil {P : V → Prop} : ∀ w ∈ ([] : List V), P w := fun w h => absurd h List.not_mem_nil
theorem all_cons {P : V → Prop} {l : List V} (h : P v) (t : ∀ w ∈ l, P w) : ∀ w ∈ v :: l, P w := fun w hw => (List.mem_cons.mp hw).elim (fun e => e ▸ h) (t w)
theorem all_app {P : V → Prop} {l m : List V} (h : ∀ w ∈ l, P w) (t : ∀ w ∈ m, P w) : ∀ w ∈ l ++ m, P w := fun w hw => (List.mem_append.mp hw).elim (h w) (t w)
theorem cat_polG {H0 : Hp} {a : Addr} {xs : List V} {e : V} (ha : SqT K H a xs) (hb : SqT K H b [e]) (hl : xs.length ≤ 1000) (f0 : FA K (er H0 H) (.ref b)) (f : ∀ p, H p = none → FA K (er H0 (upd H p (.tup (xs ++ [e])))) (.ref p)) (k : ∀ v H', Same H H' → FA K (er H0 H') v → Q v H') : rCatA K (.ref a) (.ref b) H Q :=
  cat_pol (c := b) ha hb hl (fun _ => k _ _ (Same.refl H) f0) fun p np => k _ _ (same_new np) (f p np)
theorem lcTerm {H0 : Hp} {a : Addr} {xs : List V} {σ : L2.St} {vs : List Nat} {n i : Nat} {te : TE} (m : Int) (hm : m.natAbs < 10 ^ 100) (hv : σ[n]? = some (some (.ref a))) (hs : H a = some (.lst xs)) (hl : xs.length ≤ 1000) (al : Al H0 H) (hw : ∀ x, wipe ((wipe σ vs).set i (some x)) vs = wipe σ vs)
    (he : ∀ x H2 (R : VK), (∀ b, H2 b = none → R (.ref b) (upd H2 b (.tup [x, .int m]))) → te ((wipe σ vs).set i (some x)) H2 R) (hF : ∀ x ∈ xs, FA K (er H0 H) x)
    (k : ∀ D ys H2, Same H H2 → H2 D = some (.lst ys) → ys.length = xs.length → (∀ y ∈ ys, FB K (er H0 H2) y) → Q (.ref D) H2) : tLc (iList K (tVar n)) (gName i) tYes te vs σ H Q := by
  refine ⟨_, hv, a, rfl, ⟨_, SqL.of hs⟩, fun D nD => lc_list (K := K) (a := a) (xs := xs) (fun m' H2 => ∃ acc, H2 D = some (.lst acc) ∧ acc.length = m' ∧ Same H H2 ∧ ∀ y ∈ acc, ∃ b x, y = V.ref b ∧ H2 b = some (.tup [x, .int m]) ∧ H b = none ∧ x ∈ xs) ⟨[], upd_same, rfl, same_new nD, fun y h => absurd h List.not_mem_nil⟩ (fun m' H2 _ ⟨acc, h1, h2, s2, h3⟩ => SqL.of (s2 _ _ hs)) ?_ ?_⟩
  · rintro i' x H2 hi ⟨acc, hD, hlen, s2, hA⟩
    refine ⟨hw _, ?_⟩
    dsimp only [tYes]
    rw [if_pos rfl]
    have hi' : i' < xs.length := (List.getElem?_eq_some_iff.mp hi).1
    refine he x H2 _ fun b nb => ?_
    have nbD : D ≠ b := fun z => by rw [← z, hD] at nb; cases nb
    refine ⟨acc, by rw [upd_ne nbD]; exact hD, sl_lt (by omega), acc ++ [.ref b], upd_same, by rw [List.length_append, hlen]; rfl, same_mut (s2.trans (same_new nb)) nD, fun y hy => ?_⟩
    rcases List.mem_append.mp hy with h | h
    · obtain ⟨b', x', e, h1, h2, h3⟩ := hA y h
      refine ⟨b', x', e, ?_, h2, h3⟩
      rw [upd_ne (ne_of h1 hD (by intro z; cases z)), upd_ne (fun z => by rw [z, nb] at h1; cases h1)]
      exact h1
    · have e : y = .ref b := by simpa using h
      refine ⟨b, x, e, ?_, ?_, List.mem_of_getElem? hi⟩
      · rw [upd_ne nbD.symm, upd_same]
      · cases hb : H b with
        | none => rfl
        | some o => rw [s2 _ _ hb] at nb; cases nb
  · rintro H2 ⟨acc, hD, hlen, s2, hA⟩
    refine k D acc H2 s2 hD hlen fun y hy => ?_
    obtain ⟨b, x, rfl, h1, h2, h3⟩ := hA y hy
    obtain ⟨d, hd, hn⟩ := hF x h3
    exact ⟨_, .tup (SqT.of (er_of h1 fun ys z => al _ _ z h2)) (.cons (Dp.same (er_same s2) hd) (.cons (.int m) .nil)), (nice_2 hn (nice_int hm)).up (by decide) (by decide)⟩
end
def sp__law_changed9 (K : PySem.W.Frag) : Sp := fun vs H Q _ => ∃ (p c : Addr) (q : Int) (e : V) (g : Pol) (m : Int) (n : Nat), vs = [.ref p, .int q, e] ∧ 2 ≤ q ∧ q ≤ 97 ∧ TEff K H e g m ∧ Sm g ∧ g.length ≤ 100 ∧ m.natAbs < 10 ^ 90 ∧ PenAt H p c n ∧ n < 2 ^ 38 ∧ ∀ v H', Kp p H H' → PenAt H' p c (n + 2) → Good K (er H H') v → Q v H'
theorem op_mulOk {X : Cx} : OpR X (binaryOp .Mult) (rI IntMulOk fun i j => .int (i * j)) := opI fun _ _ _ _ _ _ _ hc q => mul_int q hc
def er1 (D : Addr) (H : Hp) : Hp := fun b => if b = D then none else H b
theorem er1_at {D b : Addr} {H : Hp} {o : HO} (h : er1 D H b = some o) : b ≠ D ∧ H b = some o := by
  unfold er1 at h
  split at h
  · cases h
  · next z => exact ⟨z, h⟩
theorem er1_of {D b : Addr} {H : Hp} {o : HO} (n : b ≠ D) (h : H b = some o) : er1 D H b = some o := by
  unfold er1
  rw [if_neg n]
  exact h
theorem er1_pen {D p c : Addr} {H : Hp} {n : Nat} (hp : p ≠ D) (hc : c ≠ D) (pen : PenAt H p c n) : PenAt (er1 D H) p c n := by
  obtain ⟨ns, u, l, h1, h2, h3, h4⟩ := pen.ex
  exact ⟨⟨ns, u, l, er1_of hp h1, er1_of hc h2, h3, h4⟩⟩
theorem lcPenG {K : PySem.W.Frag} {p c : Addr} {σ : L2.St} {H : Hp} {vs : List Nat} {i : Nat} {te : TE} {Q : VK} (n : Nat) {z : Int} (hz : z = (n : Int)) (b cost : Nat) (hn : n ≤ 1000)
    (hw : ∀ x, wipe ((wipe σ vs).set i (some x)) vs = wipe σ vs) (pen : PenAt H p c b)
    (he : ∀ (m : Nat), m < n → ∀ H2, Kp p H H2 → PenAt H2 p c (b + cost * m) → ∀ S : VK, (∀ v H3, Kp p H2 H3 → PenAt H3 p c (b + cost * (m + 1)) → Good K (er H2 H3) v → S v H3) → te ((wipe σ vs).set i (some (.int (0 + (m : Int))))) H2 S)
    (k : ∀ D xs H2, xs.length = n → H2 D = some (.lst xs) → (∀ v ∈ xs, Good K H2 v) → Kp p H H2 → PenAt H2 p c (b + cost * n) → Q (.ref D) H2) : tLc (iRng1 (tCons (tC (.int z)) tNil)) (gName i) tYes te vs σ H Q := by
  subst hz
  refine ⟨(n : Int), rfl, by omega, by omega, fun D nD => lc_range (lo := 0) (n := ((n : Int)).toNat) (fun m H2 => ∃ xs, H2 D = some (.lst xs) ∧ xs.length = m ∧ (∀ v ∈ xs, Good K (er1 D H2) v) ∧ Kp p H H2 ∧ PenAt H2 p c (b + cost * m)) ⟨[], upd_same, rfl, fun v h => absurd h List.not_mem_nil, Same.kp (same_new nD), pen.same (same_new nD)⟩ ?_ ?_⟩
  · rintro m H2 hm ⟨xs, hD, hl, hR, kp, pen2⟩
    refine ⟨hw _, ?_⟩
    dsimp only [tYes]
    rw [if_pos rfl]
    refine he m (by omega) H2 kp pen2 _ fun v H3 k3 pen3 hv => ?_
    have npD := pen.np nD
    have ncD := pen.nc nD
    have hD3 : H3 D = some (.lst xs) := k3 _ _ npD hD
    refine ⟨xs, hD3, sl_lt (by omega), xs ++ [v], upd_same, by rw [List.length_append, hl]; rfl, fun w hw' => ?_, fun x o nx ex => ?_, pen3.upd npD ncD⟩
    · rcases List.mem_append.mp hw' with h | h
      · refine Good.kp (er1_pen npD.symm ncD.symm pen2) (fun x o nx ex => ?_) (hR w h)
        obtain ⟨h1, h2⟩ := er1_at ex
        exact er1_of h1 (by rw [upd_ne h1]; exact k3 _ _ nx h2)
      · have e : w = v := by simpa using h
        rw [e]
        refine Good.same (fun x o ex => ?_) hv
        obtain ⟨h1, h2⟩ := er_at ex
        have h3 : x ≠ D := fun z => h2 xs (z ▸ hD)
        exact er1_of h3 (by rw [upd_ne h3]; exact h1)
    · rw [upd_ne (ne_of_none ex nD)]
      exact k3 _ _ nx (kp _ _ nx ex)
  · rintro H2 ⟨xs, hD, hl, hR, kp, pen2⟩
    exact k D xs H2 (by rw [hl]; omega) hD (fun v hv => Good.same (fun x o ex => (er1_at ex).2) (hR v hv)) kp (pen2.mono (by rw [Int.toNat_natCast]; exact Nat.le_refl _))
end DR
namespace DR
open PySem PySem.Spec PyProof.Rows L2
/-! ### a call by keywords alone -/
section
variable {X : Cx} {CX : CXT} {k : Nat} {f : Addr} {fd : FuncData} {ps ks : List Str} {sp : Sp} {E : XK} {x : Str} {p pos : Pos} {kws : List Keyword} {tk : TA} {g : List Value → List Value → List Value} {gV : List V → List V → List V}
/-- the keywords of a call, none of them `**` -/
structure KwsAre (pos : Pos) (kws : List Keyword) (env : Env) (ks : List Str) : Prop where
  named : (backToKw pos (keywordEach kws env)).all (·.1.isSome) = true
  names : (backToKw pos (keywordEach kws env)).filterMap (·.1) = ks
  plain : ((backTo pos (starEach [] env)).any (·.1) || (backToKw pos (keywordEach kws env)).any (·.1.isNone)) = false
theorem pe_callK0 (F : FnOk X.prog X.w X.K X.mg X.base CX k f fd ps sp) (hr : Room k X.A) (hg : Gl X x) (hm : X.mg x = some (.ref f)) (hk : PySem.W.keepIn X.K (.ref f) = true) (hb : KBinds X.K fd ps ks g gV) (hx : Passes CX X E) (hkw : PK X kws tk)
    (said : KwsAre pos kws X.env ks := by exact ⟨rfl, rfl, rfl⟩) (hdb : (x == ("__debug__" : Str)) = false := by decide) :
    PE X (.Call (.Name x p) [] kws pos) (tCallK sp gV E tNil tk) := by
  refine ⟨fun pins now σ H Q I told => wpAny_Call_Name_kw (ld_glob I hg hm (PySem.W.callWith_KW0 (h₀ := X.base) I.ok.mod.kin hk said.named ?_ said.plain) hdb)⟩
  refine thn (hkw.run pos pins now σ H _ I told) fun ws s2 ⟨zs, H2, I2, rz, q2⟩ => ⟨I2.kIn, ?_⟩
  rw [said.names]
  exact run_fnk (us := []) (vs := []) F hr hb hx I2 .nil rz q2
end
/-- two keywords, in the other order -/
def sw2 {α : Type} : List α → List α → List α
  | [], [a, b] => [b, a]
  | _, _ => []
theorem sw2_rel {vs : List V} {us : List Value} {zs : List V} {ws : List Value} (h : Vals vs us) (h2 : Vals zs ws) : Vals (sw2 vs zs) (sw2 us ws) := by
  cases h with
  | nil =>
    cases h2 with
    | nil => exact .nil
    | cons a t =>
      cases t with
      | nil => exact .nil
      | cons b t2 =>
        cases t2 with
        | nil => exact .cons b (.cons a .nil)
        | cons _ _ => exact .nil
  | cons _ _ =>
    cases h2 with
    | nil => exact .nil
    | cons a t => exact .nil
structure CalW (P : Program) (w : World) (K : PySem.W.Frag) (mg : Str → Option Value) (base : Heap) (k : Nat) (x : Str) (k1 k2 : Str) (sp : Sp) : Prop where
  ex : ∃ (f : Addr) (fd : FuncData), FnOk P w K mg base CX0 k f fd [k2, k1] sp ∧ mg x = some (.ref f) ∧ PySem.W.keepIn K (.ref f) = true ∧ KBinds K fd [k2, k1] [k1, k2] sw2 sw2
theorem calw_of {P : Program} {w : World} {K : PySem.W.Frag} {mg : Str → Option Value} {base : Heap} {k : Nat} {x k1 k2 : Str} {st : Stmt} {sp : Sp} (D : Df K mg x st)
    (b : ∀ (kV doc pm : Value) (an : Option Addr) (cdv ct : Value) (u v : Value), bindArgs (PySem.W.fnOf x x (defArgs st) (defBody st) (defScope st) .none kV doc pm an cdv ct) ⟨[], [(k1, u), (k2, v)]⟩ = pure [(k2, v), (k1, u)])
    (ok : ∀ f fd, Fun K x x st f fd → FnOk P w K mg base CX0 k f fd [k2, k1] sp) : CalW P w K mg base k x k1 k2 sp := by
  obtain ⟨f, fd, F, hm, kp⟩ := D.ex
  refine ⟨f, fd, ok f fd F, hm, kp, ⟨fun s us ws _ hl => ?_, sw2_rel⟩⟩
  obtain ⟨_, _, kV, doc, pm, an, cdv, ct, _, rfl, _⟩ := F.ex
  match us, ws, hl with
  | [], [u, v], _ => exact .of_eq (b kV doc pm an cdv ct u v)
theorem pe_cw {X : Cx} {k j : Nat} {x k1 k2 : Str} {sp : Sp} {p pos : Pos} {kws : List Keyword} {tk : TA} (c : CalW X.prog X.w X.K X.mg X.base k x k1 k2 sp) (hr : Room j X.A) (hk : k ≤ j) (hg : Gl X x) (hkw : PK X kws tk)
    (said : KwsAre pos kws X.env [k1, k2] := by exact ⟨rfl, rfl, rfl⟩) (hdb : (x == ("__debug__" : Str)) = false := by decide) :
    PE X (.Call (.Name x p) [] kws pos) (tCallK sp sw2 E0 tNil tk) := by
  obtain ⟨f, fd, F, hm, kp, b⟩ := c.ex
  exact pe_callK0 F (hr.mono hk) hg hm kp b pass0 hkw said hdb
/-! ### least and greatest -/
def loL (x : Int) (r : List Int) : Int := r.foldr min x
def hiL (x : Int) (r : List Int) : Int := r.foldr max x
theorem loL_le (x : Int) : ∀ (r : List Int), loL x r ≤ x ∧ ∀ y ∈ r, loL x r ≤ y
  | [] => ⟨Int.le_refl _, fun y h => absurd h List.not_mem_nil⟩
  | z :: r => by
    obtain ⟨a, b⟩ := loL_le x r
    have e : loL x (z :: r) = min z (loL x r) := rfl
    refine ⟨by omega, fun y hy => ?_⟩
    rcases List.mem_cons.mp hy with q | q
    · rw [q]; omega
    · have := b y q; omega
theorem loL_mem (x : Int) : ∀ (r : List Int), loL x r ∈ x :: r
  | [] => List.mem_cons_self
  | z :: r => by
    have h := loL_mem x r
    have e : loL x (z :: r) = min z (loL x r) := rfl
    by_cases q : z ≤ loL x r
    · rw [e, Int.min_eq_left q]
      exact List.mem_cons_of_mem _ List.mem_cons_self
    · rw [e, Int.min_eq_right (by omega)]
      rcases List.mem_cons.mp h with w | w
      · rw [w]; exact List.mem_cons_self
      · exact List.mem_cons_of_mem _ (List.mem_cons_of_mem _ w)
theorem loL_eq {x m : Int} {r : List Int} (h : m ∈ x :: r) (l : ∀ y ∈ x :: r, m ≤ y) : m = loL x r := by
  have h1 := l _ (loL_mem x r)
  have h2 : loL x r ≤ m := by
    rcases List.mem_cons.mp h with q | q
    · rw [q]; exact (loL_le x r).1
    · exact (loL_le x r).2 m q
  omega
theorem hiL_ge (x : Int) : ∀ (r : List Int), x ≤ hiL x r ∧ ∀ y ∈ r, y ≤ hiL x r
  | [] => ⟨Int.le_refl _, fun y h => absurd h List.not_mem_nil⟩
  | z :: r => by
    obtain ⟨a, b⟩ := hiL_ge x r
    have e : hiL x (z :: r) = max z (hiL x r) := rfl
    refine ⟨by omega, fun y hy => ?_⟩
    rcases List.mem_cons.mp hy with q | q
    · rw [q]; omega
    · have := b y q; omega
theorem hiL_mem (x : Int) : ∀ (r : List Int), hiL x r ∈ x :: r
  | [] => List.mem_cons_self
  | z :: r => by
    have h := hiL_mem x r
    have e : hiL x (z :: r) = max z (hiL x r) := rfl
    by_cases q : hiL x r ≤ z
    · rw [e, Int.max_eq_left q]
      exact List.mem_cons_of_mem _ List.mem_cons_self
    · rw [e, Int.max_eq_right (by omega)]
      rcases List.mem_cons.mp h with w | w
      · rw [w]; exact List.mem_cons_self
      · exact List.mem_cons_of_mem _ (List.mem_cons_of_mem _ w)
theorem hiL_eq {x m : Int} {r : List Int} (h : m ∈ x :: r) (l : ∀ y ∈ x :: r, y ≤ m) : m = hiL x r := by
  have h1 := l _ (hiL_mem x r)
  have h2 : m ≤ hiL x r := by
    rcases List.mem_cons.mp h with q | q
    · rw [q]; exact (hiL_ge x r).1
    · exact (hiL_ge x r).2 m q
  omega
/-! ### the length of an effect -/
def places (f : Pol) (m : Int) : List Int := m :: f.map (·.1)
def lo (f : Pol) (m : Int) : Int := loL 0 (places f m)
def hi (f : Pol) (m : Int) : Int := hiL 0 (places f m)
def ft (p v : Int) : Int := if p - v < v then p - v else v
def absI (m : Int) : Int := if m < 0 then -m else m
def turnsOf (p : Int) (f : Pol) : Int := (f.map fun t => ft p t.2).sum
def lenE (p : Int) (f : Pol) (m : Int) : Int := 2 * (hi f m - lo f m) - absI m + turnsOf p f
def sp_fewest_turns : Sp := fun vs H Q _ => ∃ (p v : Int), vs = [.int p, .int v] ∧ Q (.int (ft p v)) H
def sp_cost : Sp := fun vs H Q _ => ∃ (p v : Int), vs = [.int p, .int v] ∧ 0 < v ∧ v < p ∧ Q (.int (ft p v)) H
def sp_reach (K : PySem.W.Frag) : Sp := fun vs H Q _ => ∃ (v : V) (f : Pol) (m : Int), vs = [v] ∧ TEff K H v f m ∧ f.length ≤ 100000 ∧ ∀ a H', Same H H' → SqT K H' a [.int (lo f m), .int (hi f m)] → Q (.ref a) H'
def sp_length (K : PySem.W.Frag) : Sp := fun vs H Q _ => ∃ (p : Int) (v : V) (f : Pol) (m : Int), vs = [.int p, v] ∧ TEff K H v f m ∧ f.length ≤ 100000 ∧ ∀ H', Same H H' → Q (.int (lenE p f m)) H'
def sp_size (K : PySem.W.Frag) : Sp := fun vs H Q _ => ∃ (p : Int) (v : V) (f : Pol) (m : Int), vs = [.int p, v] ∧ TEff K H v f m ∧ f.length ≤ 100000 ∧ (∀ t ∈ f, 0 < t.2 ∧ t.2 < p) ∧ ∀ H', Same H H' → Q (.int (lenE p f m)) H'
/-- [an int for x, y in a tuple of pairs] -/
theorem lcTi {K : PySem.W.Frag} {a : Addr} {xs : List V} {f : Pol} {σ : L2.St} {H : Hp} {vs : List Nat} {i j : Nat} {te tv : TE} {Q : VK} (G : Int × Int → Int) (hv : ∀ R : VK, R (.ref a) H → tv σ H R) (hs : SqT K H a xs) (hP : Prs K H xs f) (hl : f.length ≤ 100000)
    (hw : ∀ x y, wipe (((wipe σ vs).set i (some x)).set j (some y)) vs = wipe σ vs)
    (he : ∀ t ∈ f, ∀ H2, Same H H2 → ∀ R : VK, R (.int (G t)) H2 → te (((wipe σ vs).set i (some (.int t.1))).set j (some (.int t.2))) H2 R)
    (k : ∀ D H2, H D = none → Same H H2 → H2 D = some (.lst ((f.map G).map V.int)) → Q (.ref D) H2) : tLc (iTup K tv) (gTup K 2 (gCons (gName i) (gCons (gName j) gNil))) tYes te vs σ H Q := by
  refine hv _ ⟨a, rfl, ⟨_, hs⟩, fun D nD => lc_tup (K := K) (a := a) (xs := xs) (fun m H2 => Same H H2 ∧ H2 D = some (.lst (((f.take m).map G).map V.int))) ⟨same_new nD, upd_same⟩ (fun m H2 _ g => same_t g.1 hs) ?_ ?_⟩
  · rintro m x H2 hm ⟨s2, h2⟩
    obtain ⟨t, ht, b, rfl, hb⟩ := hP.get hm
    refine ⟨b, _, rfl, same_t s2 hb, rfl, _, _, rfl, _, _, rfl, rfl, hw _ _, ?_⟩
    dsimp only [tYes]
    rw [if_pos rfl]
    have hm2 : m < f.length := (List.getElem?_eq_some_iff.mp ht).1
    refine he t (List.mem_of_getElem? ht) H2 s2 _ ⟨_, h2, sl_lt (by rw [List.length_map, List.length_map, List.length_take]; omega), same_mut s2 nD, ?_⟩
    rw [upd_same, take_snoc ht, List.map_append, List.map_append]
    rfl
  · rintro H2 ⟨s2, h2⟩
    rw [hP.len, List.take_length] at h2
    exact k D H2 nD s2 h2
/-- [a pair of ints for k in range(..)], drawn by the pen -/
theorem lcPenP {K : PySem.W.Frag} {p c : Addr} {σ : L2.St} {H : Hp} {vs : List Nat} {i : Nat} {te : TE} {ta : TA} {Q : VK} (R : Int × Int → Prop) (N b cost : Nat) (hn : N ≤ 1000)
    (hw : ∀ x, wipe ((wipe σ vs).set i (some x)) vs = wipe σ vs) (pen0 : PenAt H p c 0 ∨ ∃ n, PenAt H p c n)
    (hv : ∀ S : List V → Hp → Prop, (∀ (r : Int) H1, 0 ≤ r → r ≤ (N : Int) → Kp p H H1 → PenAt H1 p c b → S [.int r] H1) → ta σ H S)
    (he : ∀ (m : Nat), m < N → ∀ H2, Kp p H H2 → PenAt H2 p c (b + cost * m) → ∀ S : VK, (∀ t H3 q, R t → H3 q = none → Kp p H2 H3 → PenAt H3 p c (b + cost * (m + 1)) → S (.ref q) (upd H3 q (.tup [.int t.1, .int t.2]))) → te ((wipe σ vs).set i (some (.int (0 + (m : Int))))) H2 S)
    (k : ∀ D H2 f, LPol K H2 (.ref D) f → f.length ≤ N → (∀ t ∈ f, R t) → Kp p H H2 → PenAt H2 p c (b + cost * N) → Q (.ref D) H2) : tLc (iRng1 ta) (gName i) tYes te vs σ H Q := by
  refine hv _ fun r H1 h0 h9 kp1 pen1 => ?_
  refine ⟨r, rfl, by omega, by omega, fun D nD => ?_⟩
  have npD := pen1.np nD
  have ncD := pen1.nc nD
  refine lc_range (lo := 0) (n := r.toNat) (fun m H2 => ∃ xs f, H2 D = some (.lst xs) ∧ Prs K H2 xs f ∧ f.length = m ∧ (∀ t ∈ f, R t) ∧ Kp p H1 H2 ∧ PenAt H2 p c (b + cost * m)) ⟨[], [], upd_same, .nil, rfl, fun t h => absurd h List.not_mem_nil, Same.kp (same_new nD), pen1.same (same_new nD)⟩ ?_ ?_
  · rintro m H2 hm ⟨xs, f, hD, hP, hl, hR, kp, pen2⟩
    refine ⟨hw _, ?_⟩
    dsimp only [tYes]
    rw [if_pos rfl]
    refine he m (by omega) H2 (kp1.trans kp) pen2 _ fun t H3 q ht nq k3 pen3 => ?_
    have hD3 : H3 D = some (.lst xs) := k3 _ _ npD hD
    have nDq : D ≠ q := ne_of_none hD3 nq
    have hD4 : upd H3 q (.tup [.int t.1, .int t.2]) D = some (.lst xs) := by
      rw [upd_ne nDq]
      exact hD3
    have t2 : Tp (upd H3 q (.tup [.int t.1, .int t.2])) (upd (upd H3 q (.tup [.int t.1, .int t.2])) D (.lst (xs ++ [.ref q]))) := tp_lst hD4
    refine ⟨xs, hD4, sl_lt (by rw [hP.len]; omega), xs ++ [.ref q], f ++ [t], upd_same, Prs.snoc (Prs.tp ((pen2.tp k3).trans ((tp_new nq).trans t2)) hP) (IsPr.tp t2 isPr_new), by rw [List.length_append, hl]; rfl, fun u hu => ?_, fun x o nx ex => ?_, (pen3.same (same_new nq)).upd npD ncD⟩
    · rcases List.mem_append.mp hu with z | z
      · exact hR u z
      · have e : u = t := by simpa using z
        rw [e]; exact ht
    · rw [upd_ne (ne_of_none ex nD)]
      have e3 := k3 _ _ nx (kp _ _ nx ex)
      rw [upd_ne (ne_of_none e3 nq)]
      exact e3
  · rintro H2 ⟨xs, f, hD, hP, hl, hR, kp, pen2⟩
    refine k D H2 f ⟨D, xs, rfl, SqL.of hD, hP⟩ (by omega) hR (kp1.trans kp) (pen2.mono ?_)
    have : r.toNat ≤ N := by omega
    exact Nat.add_le_add_left (Nat.mul_le_mul_left _ this) _
/-! ### effects that the laws draw -/
/-- canonical, of bounded size -/
structure DrE (q : Int) (g : Pol) (m : Int) (L : Nat) (B : Nat) : Prop where
  nf : Nf q g (cf g)
  len : g.length ≤ L
  abs : ∀ t ∈ g, t.1.natAbs ≤ B
  sh : m.natAbs ≤ B
def sp__law_wide : Sp := fun vs H Q _ => ∃ (p c : Addr) (most : Int) (n : Nat), vs = [.ref p, .int most] ∧ 0 ≤ most ∧ most.natAbs < 10 ^ 90 ∧ PenAt H p c n ∧ n + 7 < 2 ^ 40 ∧ ∀ r H', r.natAbs ≤ most.natAbs + 8 → Kp p H H' → PenAt H' p c (n + 7) → Q (.int r) H'
def sp__law_wide_effect (K : PySem.W.Frag) : Sp := fun vs H Q _ => ∃ (p c : Addr) (q terms most : Int) (n : Nat), vs = [.ref p, .int q, .int terms, .int most] ∧ 2 ≤ q ∧ q ≤ 97 ∧ 0 ≤ terms ∧ terms ≤ 100 ∧ 0 ≤ most ∧ most.natAbs < 10 ^ 80 ∧ PenAt H p c n ∧ n < 2 ^ 38 ∧
  ∀ v H' g sh, Kp p H H' → PenAt H' p c (n + 8 * terms.toNat + 10) → TEff K H' v g sh → DrE q g sh terms.toNat (most.natAbs + 8) → Q v H'
def sp__law_long_effect (K : PySem.W.Frag) : Sp := fun vs H Q _ => ∃ (p c : Addr) (q many : Int) (n : Nat), vs = [.ref p, .int q, .int many] ∧ 2 ≤ q ∧ q ≤ 97 ∧ 0 ≤ many ∧ many ≤ 1000 ∧ PenAt H p c n ∧ n < 2 ^ 38 ∧
  ∀ v H' g sh, Kp p H H' → PenAt H' p c (n + 5) → TEff K H' v g sh → DrE q g sh many.toNat 4000 → Q v H'
def sp__law_any_effect (K : PySem.W.Frag) : Sp := fun vs H Q _ => ∃ (p c : Addr) (q most many : Int) (n : Nat), vs = [.ref p, .int q, .int most, .int many] ∧ 2 ≤ q ∧ q ≤ 97 ∧ 0 ≤ most ∧ most.natAbs < 10 ^ 80 ∧ 0 ≤ many ∧ many ≤ 1000 ∧ PenAt H p c n ∧ n < 2 ^ 37 ∧
  ∀ v H' g sh, Kp p H H' → PenAt H' p c (n + 60) → TEff K H' v g sh → DrE q g sh 1000 (most.natAbs + 4000) → Q v H'
end DR
namespace DR
open PySem PySem.Spec PyProof.Rows L2
/-! ### max of a dict whose keys are ints -/
theorem call_maxKA {X : Cx} (calm : X.calm = true) : CallR X (.builtin "max") (fun xs H Q => ∃ (a : Addr) (kvs : List (Key × V)) (ks : List Int), xs = [.ref a] ∧ H a = some (.dK kvs) ∧ kvs.map (·.1) = ks.map Sum.inl ∧ 0 < ks.length ∧
    ∀ M : Int, M ∈ ks → (∀ x ∈ ks, x ≤ M) → Q (.int M) H) := by
  intro pins s σ H xs us Q I r q
  obtain ⟨a, kvs, ks, rfl, hd, hks, hpos, q⟩ := q
  rw [Vals.ref1 r]
  obtain ⟨z, lo, vs, rel, dd⟩ := dk_of I.hok hd
  obtain ⟨ep, hat⟩ := dd.dictAt
  have keys : vs.map (·.1) = ks.map Sum.inl := by rw [← hks]; exact rel.keys.symm
  have len : vs.length = ks.length := by
    have := congrArg List.length keys
    simpa using this
  have hne : a ≠ s.heap.objs.size := Nat.ne_of_lt hat.lt_size
  have shape : ∀ (i : Nat) (v : Value), (∃ k x, vs[i]? = some (k, x) ∧ (mixKind X.prog X.w).is k v = true) → ∃ t, v = .int (ks.getD i 0) t := fun i v hP => by
    obtain ⟨k, x, h1, h2⟩ := hP
    have hi : i < vs.length := (List.getElem?_eq_some_iff.mp h1).1
    have e1 : (vs.map (·.1))[i]? = some k := by rw [List.getElem?_map, h1]; rfl
    rw [keys, List.getElem?_map, List.getElem?_eq_getElem (by omega)] at e1
    have e2 : k = Sum.inl ks[i] := (Option.some.inj e1).symm
    have h3 : keyIs k v = true := h2
    rw [e2] at h3
    rcases keyIs_shape h3 with ⟨j, t, e3, e4⟩ | ⟨y, t, e3, e4⟩
    · refine ⟨t, ?_⟩
      rw [List.getD_eq_getElem?_getD, List.getElem?_eq_getElem (by omega)]
      injection e3 with e3
      rw [e4, ← e3]
      rfl
    · cases e3
  refine call_max_walk (wpAny_pyIter_dict lo hat ?_)
  refine ⟨_, _, _, _, _, _, _, rfl, Walks.dictKeys (A := X.A.in1) (knd := mixKind X.prog X.w) (I.ok.hd calm) s.heap.objs.size a hne vs ep, ⟨⟨_, Heap.get?_push_size _ rfl, rfl, rfl⟩, hat.push _⟩, ?_, by omega, CmpOf.ints_gt (fun i => ks.getD i 0) (fun i v hP => ?_), fun v h' tk hP hk => ?_⟩
  · intro b hb
    show b < (s.heap.push _).objs.size
    have hs : (s.heap.push { cls := .type "dict_keyiterator", data := .fields #[.ref a, .int 0 0, .int vs.length 0, .int ep 0] }).objs.size = s.heap.objs.size + 1 := by simp [Heap.push]
    rw [hs]
    rcases List.mem_cons.mp hb with e | hb
    · rw [e]
      exact Nat.lt_succ_self _
    · rw [List.mem_singleton.mp hb]
      exact Nat.lt_succ_of_lt hat.lt_size
  · exact shape i v hP
  · obtain ⟨b1, b2⟩ := argBest_gt (fun i => ks.getD i 0) (vs.length - 1)
    obtain ⟨t, rfl⟩ := shape _ v hP
    refine ⟨.int _, H, I.kept fun b o eo => hk b o (fun hmem => ?_) (Heap.get?_push_of_some _ eo), ⟨t, rfl⟩, q _ ?_ fun x hx => ?_⟩
    · rcases List.mem_cons.mp hmem with e1 | hmem
      · exact absurd (e1 ▸ Heap.lt_size eo) (Nat.lt_irrefl _)
      · cases hmem
    · rw [List.getD_eq_getElem?_getD, List.getElem?_eq_getElem (by omega)]
      exact List.getElem_mem _
    · obtain ⟨j, hj, rfl⟩ := List.getElem_of_mem hx
      have := b2 j (by omega)
      rw [List.getD_eq_getElem?_getD, List.getElem?_eq_getElem hj] at this
      exact this
/-! ### an entry of a dict of ints taken out, or written -/
def drp (m : Pol) (e : Int) : Pol := m.filter fun t => decide (t.1 ≠ e)
theorem kv_drop (m : Pol) (e : Int) : dropK (kvOf m) (Sum.inl e : Key) = kvOf (drp m e) := by
  unfold dropK kvOf drp
  rw [List.filter_map]
  congr 1
  refine List.filter_congr fun t _ => ?_
  show decide ((Sum.inl t.1 : Key) ≠ Sum.inl e) = decide (t.1 ≠ e)
  exact decide_eq_decide.mpr ⟨fun h z => h (by rw [z]), fun h z => h (Sum.inl.inj z)⟩
theorem drp_cf (e : Int) : ∀ (m : Pol) (x : Int), cf (drp m e) x = if x = e then 0 else cf m x
  | [], x => by
    show (0 : Int) = _
    split <;> rfl
  | t :: r, x => by
    have ih := drp_cf e r x
    by_cases h : t.1 = e
    · have e1 : drp (t :: r) e = drp r e := List.filter_cons_of_neg (by simp [h])
      rw [e1, ih, cf_cons]
      by_cases q : x = e
      · rw [if_pos q, if_pos q]
      · rw [if_neg q, if_neg q, if_neg (fun z => q (by rw [← z, h])), Int.zero_add]
    · have e1 : drp (t :: r) e = t :: drp r e := List.filter_cons_of_pos (by simp [h])
      rw [e1, cf_cons, ih, cf_cons]
      by_cases q : x = e
      · rw [if_pos q, if_pos q, if_neg (fun z => h (by rw [z, q])), Int.zero_add]
      · rw [if_neg q, if_neg q]
theorem drp_keys {m : Pol} {e x : Int} (h : x ∈ (drp m e).map (·.1)) : x ≠ e ∧ x ∈ m.map (·.1) := by
  obtain ⟨t, ht, rfl⟩ := List.mem_map.mp h
  obtain ⟨h1, h2⟩ := List.mem_filter.mp ht
  exact ⟨of_decide_eq_true h2, List.mem_map_of_mem h1⟩
theorem drp_nodup {m : Pol} (e : Int) (h : (m.map (·.1)).Nodup) : ((drp m e).map (·.1)).Nodup := h.sublist (List.filter_sublist.map _)
theorem drp_len (m : Pol) (e : Int) : (drp m e).length ≤ m.length := List.length_filter_le _ _
def stp (m : Pol) (e v : Int) : Pol := if v = 0 then drp m e else put m e v
theorem stp_cf {m : Pol} (e v : Int) (h : (m.map (·.1)).Nodup) (x : Int) : cf (stp m e v) x = if x = e then v else cf m x := by
  unfold stp
  by_cases z : v = 0
  · rw [if_pos z, drp_cf, z]
  · rw [if_neg z, put_cf _ _ _ _ h]
theorem stp_nodup {m : Pol} (e v : Int) (h : (m.map (·.1)).Nodup) : ((stp m e v).map (·.1)).Nodup := by
  unfold stp
  split
  · exact drp_nodup e h
  · exact put_nodup m e v h
theorem stp_keys {m : Pol} {e v x : Int} (h : x ∈ (stp m e v).map (·.1)) : (x = e ∧ v ≠ 0) ∨ (x ≠ e ∧ x ∈ m.map (·.1)) := by
  unfold stp at h
  by_cases z : v = 0
  · rw [if_pos z] at h
    exact .inr (drp_keys h)
  · rw [if_neg z] at h
    by_cases q : x = e
    · exact .inl ⟨q, z⟩
    · rcases put_keys m e v x h with y | y
      · exact absurd y q
      · exact .inr ⟨q, y⟩
theorem stp_len (m : Pol) (e v : Int) : (stp m e v).length ≤ m.length + 1 := by
  unfold stp
  split
  · exact Nat.le_succ_of_le (drp_len m e)
  · exact put_len m e v
/-- a dict of residues that are not 0 -/
structure Rsd (p : Int) (m : Pol) : Prop where
  nd : (m.map (·.1)).Nodup
  vl : ∀ y ∈ m.map (·.1), 0 < cf m y ∧ cf m y < p
theorem Rsd.stp {p : Int} {m : Pol} (h : Rsd p m) (e : Int) {v : Int} (h0 : 0 ≤ v) (h9 : v < p) : Rsd p (stp m e v) := ⟨stp_nodup e v h.nd, fun y hy => by
  rw [stp_cf e v h.nd]
  rcases stp_keys hy with ⟨a, b⟩ | ⟨a, b⟩
  · rw [if_pos a]
    omega
  · rw [if_neg a]
    exact h.vl y b⟩
theorem Rsd.bd {p : Int} {m : Pol} (h : Rsd p m) (hp : 0 < p) (e : Int) : 0 ≤ cf m e ∧ cf m e < p := by
  by_cases z : e ∈ m.map (·.1)
  · have := h.vl e z
    omega
  · rw [cf_out z]
    omega
/-- what is to be taken away is there, or something stays -/
theorem stp_there {p : Int} {m : Pol} {e w : Int} (h : Rsd p m) (hw : w % p ≠ 0) (hl : (cf m e - w) % p = 0) : e ∈ m.map (·.1) := by
  by_cases z : e ∈ m.map (·.1)
  · exact z
  · rw [cf_out z, Int.zero_sub] at hl
    exact absurd (Int.emod_eq_zero_of_dvd (Int.dvd_neg.mp (Int.dvd_of_emod_eq_zero hl))) hw
theorem iteY {c A B : Prop} [Decidable c] (hc : c) (h : A) : if decide c = true then A else B := by
  rw [if_pos (decide_eq_true hc)]
  exact h
theorem iteZ {c A B : Prop} [Decidable c] (hc : ¬ c) (h : B) : if decide c = true then A else B := by
  rw [if_neg (by rw [decide_eq_false hc]; decide)]
  exact h
/-! ### inverses -/
theorem inv_there : ∀ q ∈ primes, ∀ a ∈ List.range q.toNat, 0 < a → ∃ u ∈ List.range q.toNat, 0 < u ∧ ((u : Int) * (a : Int)) % q = 1 := by decide +kernel
def sp_reciprocal : Sp := fun vs H Q _ => ∃ (p a : Int), vs = [.int p, .int a] ∧ p ∈ primes ∧ 0 < a ∧ a < p ∧ ∀ u : Int, 0 < u → u < p → u * a % p = 1 → Q (.int u) H
def sp_from_zero (K : PySem.W.Frag) : Sp := fun vs H Q _ => ∃ (v : V) (f : Pol), vs = [v] ∧ TPol K H v f ∧ f.length ≤ 1000000 ∧ ∀ u H', Same H H' → TPol K H' u (match f with | [] => [] | t :: _ => moved (-t.1) f) → Q u H'
end DR
namespace DR
open PySem PySem.Spec PyProof.Rows L2
/-! ### a dict of the terms of a polynomial that pass a test -/
theorem dcP {K : PySem.W.Frag} {σ : L2.St} {H : Hp} {vs : List Nat} {n i j : Nat} {tt : TT} {tk tv : TE} {Q : VK} {a : Addr} {xs : List V} {f : Pol} (b : Int × Int → Bool) (hv : σ[n]? = some (some (.ref a))) (hs : SqT K H a xs) (hP : Prs K H xs f) (hl : f.length ≤ 1000000) (hn : (f.map (·.1)).Nodup)
    (hw : ∀ x y, wipe (((wipe σ vs).set i (some x)).set j (some y)) vs = wipe σ vs)
    (ht : ∀ t ∈ f, ∀ H2, ∀ S : Bool → Hp → Prop, S (b t) H2 → tt (((wipe σ vs).set i (some (.int t.1))).set j (some (.int t.2))) H2 S)
    (hk : ∀ t ∈ f, ∀ H2, ∀ S : VK, S (.int t.1) H2 → tk (((wipe σ vs).set i (some (.int t.1))).set j (some (.int t.2))) H2 S)
    (he : ∀ t ∈ f, ∀ H2, ∀ S : VK, S (.int t.2) H2 → tv (((wipe σ vs).set i (some (.int t.1))).set j (some (.int t.2))) H2 S)
    (k : ∀ D H2, H D = none → Same H H2 → H2 D = some (.dK (kvOf (f.filter b))) → Q (.ref D) H2) : tDc (iTup K (tVar n)) (gTup K 2 (gCons (gName i) (gCons (gName j) gNil))) tt tk tv vs σ H Q := by
  refine ⟨_, hv, a, rfl, ⟨_, hs⟩, fun D nD => dc_tup (K := K) (a := a) (xs := xs) (fun m H2 => Same H H2 ∧ H2 D = some (.dK (kvOf ((f.take m).filter b)))) ⟨same_new nD, upd_same⟩ (fun m H2 _ g => same_t g.1 hs) ?_ ?_⟩
  · rintro m x H2 hm ⟨s2, hD⟩
    obtain ⟨t, ht1, c, rfl, hc⟩ := hP.get hm
    have hm0 := List.mem_of_getElem? ht1
    refine ⟨c, _, rfl, same_t s2 hc, rfl, _, _, rfl, _, _, rfl, rfl, hw _ _, ?_⟩
    refine ht t hm0 H2 _ ?_
    have et : (f.take (m + 1)).filter b = (f.take m).filter b ++ [t].filter b := by rw [take_snoc ht1, List.filter_append]
    cases hb : b t with
    | true =>
      rw [if_pos rfl]
      refine hk t hm0 H2 _ (he t hm0 H2 _ ?_)
      have hnd : (((f.take m).filter b).map (·.1)).Nodup := hn.sublist ((List.filter_sublist.trans (List.take_sublist _ _)).map _)
      have hout : t.1 ∉ ((f.take m).filter b).map (·.1) := fun z => by
        have h1 : (((f.take (m + 1))).map (·.1)).Nodup := hn.sublist ((List.take_sublist _ _).map _)
        rw [take_snoc ht1, List.map_append, List.nodup_append] at h1
        obtain ⟨u, hu, e⟩ := List.mem_map.mp z
        exact h1.2.2 u.1 (List.mem_map_of_mem (List.mem_filter.mp hu).1) t.1 (by simp) e
      refine ⟨_, Sum.inl t.1, rfl, hD, ?_, fun x o ex => ?_, ?_⟩
      · have h1 := List.length_filter_le b (f.take m)
        rw [List.length_take] at h1
        show (((f.take m).filter b).map _).length < sizeLine
        rw [List.length_map, sizeLine_eq]
        omega
      · rw [upd_ne (ne_of_none ex nD)]
        exact s2 _ _ ex
      · rw [upd_same, kv_put hnd, put_new hout, et, List.filter_cons_of_pos hb]
        rfl
    | false =>
      rw [if_neg (by decide)]
      refine ⟨s2, ?_⟩
      rw [hD, et, List.filter_cons_of_neg (by rw [hb]; decide), List.filter_nil, List.append_nil]
  · rintro H2 ⟨s2, hD⟩
    rw [hP.len, List.take_length] at hD
    exact k D H2 nD s2 hD
/-! ### name = {k: v for ..} -/
section
variable {X : Cx}
/-- what a piece of a comprehension is, wherever the comprehension's own frame may lie -/
abbrev InBlk (X : Cx) (scope : Scope) (T : Cx → Prop) : Prop := ∀ (now : Shared) (G : Hp) (cell : Addr) (names : List (Str × Addr)) (frame : List Addr), T (X.blk now G scope (compEnvC scope names cell X.env) frame)
theorem ps_setDc {i : Nat} {y : Str} {py : Pos} {kx vx tg iter : Expr} {ifs : List Expr} {scope : Scope} {own : List (Str × Nat)} {pos spos : Pos} {wi : TI} {g : TG} {tt : TT} {tk tv : TE} (hc : X.calm = true) (hN : X.N.Nodup) (hy : X.N[i]? = some y) (hyl : X.env.scope.names.lookup y = some .local)
    (hsw : swapsWith (.DictComp kx vx [⟨tg, iter, ifs, 0⟩] scope pos) (some (.Name y py)) spos.line X.env = pure true) (hi : PI X tg iter wi) (ok : BlkOk X.N X.env.scope scope own)
    (hg : InBlk X scope fun Y => PG Y tg g) (ht : InBlk X scope fun Y => PTs Y ifs tt) (hk : InBlk X scope fun Y => PE Y kx tk) (he : InBlk X scope fun Y => PE Y vx tv) (hs : ∀ x, foldedSetIterable iter X.env x = pure x := by intro _; rfl) :
    PS X (.Assign [.Name y py] (.DictComp kx vx [⟨tg, iter, ifs, 0⟩] scope pos) spos) (tAsg (tDc wi g tt tk tv (own.map (·.2))) (gName i)) := by
  constructor
  intro pins now σ G D I told
  have told : tDc wi g tt tk tv (own.map (·.2)) σ G (fun x H1 => gName i x σ H1 D.nx) := told
  rw [exec_Assign_Name_used _ _ _ _ hsw]
  refine wpAny_bind (wpAny_standAt (wpAny_bind ?_))
  show wpAny _ X.A (do let _ ← comprehension (.DictComp kx vx [⟨tg, iter, ifs, 0⟩] scope pos) scope X.env (firstIterPos [⟨tg, iter, ifs, 0⟩] pos) newDict false (eval iter X.env) (some (assign (.Name y py) X.env))) _ _ now
  refine wpAny_bind (thn (dc_core (Qf := fun _ s' => SP X pins D .next s') hc hN I hi ok hg ht hk he hs told fun L C mid m G' J found near apart => ?_) fun _ s' over => wpAny_pure (wpAny_pure over))
  obtain ⟨n0, n1, n2, n3, n4, n5⟩ := apart
  change wpAny _ _ (assign (.Name y py) X.env (.ref L)) _ _ mid
  apply wpAny_assign_Name
  apply store_ok2 (v := V.ref L) J hN hy (.inl hyl) rfl ?_ (.inr hyl)
  rintro s2 J2 ⟨cell, but, whose⟩
  have other : C ≠ cell := whose.elim (fun z => z ▸ n1) fun z q => n4 y cell z q.symm
  refine ⟨m, near.sameBut but other, fun s3 but3 => ⟨_, G', J2.turned (t' := s2.toks) (fun b u far old => ?_) n0 n1 n3 n4 n5, found⟩⟩
  exact (but3.2 b far).trans old
theorem sw_trueD {kx vx : Expr} {gs : List Comprehension} {scope : Scope} {pos py : Pos} {y : Str} {l : Nat} {env : Env} (fn : env.scope.kind = .function) (hy : env.scope.names.lookup y = some .local) (line : (py.line == pos.line) = true)
    (free : (scope.names.any fun (n, k) => n == y && (k == .local || k == .cell)) = false) : swapsWith (.DictComp kx vx gs scope pos) (some (.Name y py)) l env = pure true := by
  have here : env.kindOf y = some .local := hy
  have block : env.blockKind = .function := by simp [Env.blockKind, fn]
  simp only [swapsWith, block, here, free, Expr.pos, line]
  rfl
end
/-! ### long division -/
theorem filter_cf (b : Int → Bool) : ∀ (f : Pol) (e : Int), cf (f.filter fun t => b t.1) e = if b e = true then cf f e else 0
  | [], e => by
    show (0 : Int) = _
    split <;> rfl
  | t :: r, e => by
    have ih := filter_cf b r e
    by_cases h : b t.1 = true
    · rw [List.filter_cons_of_pos (by exact h), cf_cons, cf_cons, ih]
      by_cases q : t.1 = e
      · rw [if_pos q]
        rw [q] at h
        rw [if_pos h, if_pos h]
      · rw [if_neg q]
        split <;> omega
    · rw [List.filter_cons_of_neg (by exact h), ih, cf_cons]
      by_cases q : b e = true
      · rw [if_pos q, if_pos q, if_neg (fun z => h (by rw [z]; exact q)), Int.zero_add]
      · rw [if_neg q, if_neg q]
/-- the two dicts and the quotient while dividing -/
structure DvI (p deg : Int) (f g A R Q : Pol) (m : Nat) : Prop where
  ra : Rsd p A
  rr : Rsd p R
  nq : (Q.map (·.1)).Nodup
  ka : ∀ y ∈ A.map (·.1), deg ≤ y ∧ y < deg + m
  kr : ∀ y ∈ R.map (·.1), y < deg
  kq : ∀ y ∈ Q.map (·.1), (m : Int) ≤ y
  eq : ∀ e, (cf A e + cf R e + cf (prods Q g) e - cf f e) % p = 0
/-- within a turn -/
structure DvJ (p deg d c : Int) (A0 R0 A R : Pol) (h : Pol) : Prop where
  ra : Rsd p A
  rr : Rsd p R
  ka : ∀ y ∈ A.map (·.1), deg ≤ y ∧ y ≤ deg + d
  kr : ∀ y ∈ R.map (·.1), y < deg
  eq : ∀ e, (cf A e + cf R e - (cf A0 e + cf R0 e) + cf (times (d, c) h) e) % p = 0
theorem Nf.rsd {p : Int} {f : Pol} {F : Int → Int} (h : Nf p f F) (b : Int → Bool) : Rsd p (f.filter fun t => b t.1) := by
  have hs : (f.filter fun t => b t.1).Sublist f := List.filter_sublist
  have ha : (f.filter fun t => b t.1).Pairwise fun x y => x.1 < y.1 := h.asc.sublist hs
  refine ⟨?_, fun y hy => ?_⟩
  · rw [List.Nodup, List.pairwise_map]
    exact ha.imp fun z => by omega
  · obtain ⟨t, ht, rfl⟩ := List.mem_map.mp hy
    rw [cf_mem ha t ht]
    have := h.rng t (hs.mem ht)
    omega
theorem DvI.start {p deg : Int} {f g : Pol} {F : Int → Int} {N : Nat} (h : Nf p f F) (hN : ∀ t ∈ f, t.1 < deg + N) : DvI p deg f g (f.filter fun t => decide (t.1 ≥ deg)) (f.filter fun t => decide (t.1 < deg)) [] N := by
  refine ⟨h.rsd fun x => decide (x ≥ deg), h.rsd fun x => decide (x < deg), List.nodup_nil, fun y hy => ?_, fun y hy => ?_, fun y hy => absurd hy List.not_mem_nil, fun e => ?_⟩
  · obtain ⟨t, ht, rfl⟩ := List.mem_map.mp hy
    obtain ⟨h1, h2⟩ := List.mem_filter.mp ht
    exact ⟨of_decide_eq_true h2, hN t h1⟩
  · obtain ⟨t, ht, rfl⟩ := List.mem_map.mp hy
    exact of_decide_eq_true (List.mem_filter.mp ht).2
  · rw [filter_cf (fun x => decide (x ≥ deg)), filter_cf (fun x => decide (x < deg))]
    have e0 : cf (prods [] g) e = 0 := rfl
    rw [e0]
    by_cases z : e ≥ deg
    · rw [if_pos (decide_eq_true z), if_neg (by rw [decide_eq_false (by omega)]; decide)]
      rw [show cf f e + 0 + 0 - cf f e = 0 by omega]
      exact Int.zero_emod _
    · rw [if_neg (by rw [decide_eq_false z]; decide), if_pos (decide_eq_true (by omega))]
      rw [show 0 + cf f e + 0 - cf f e = 0 by omega]
      exact Int.zero_emod _
theorem DvJ.start {p deg d c : Int} {f g A R Q : Pol} {m : Nat} (h : DvI p deg f g A R Q m) (htop : ∀ y ∈ A.map (·.1), y ≤ deg + d) : DvJ p deg d c A R A R [] := by
  refine ⟨h.ra, h.rr, fun y hy => ⟨(h.ka y hy).1, htop y hy⟩, h.kr, fun e => ?_⟩
  have e0 : cf (times (d, c) []) e = 0 := rfl
  rw [e0, show cf A e + cf R e - (cf A e + cf R e) + 0 = 0 by omega]
  exact Int.zero_emod _
theorem times_snoc (t u : Int × Int) (h : Pol) : times t (h ++ [u]) = times t h ++ [(t.1 + u.1, t.2 * u.2)] := by
  unfold times
  rw [List.map_append]
  rfl
theorem z_add {p a b : Int} (h : a % p = 0) (k : b % p = 0) : (a + b) % p = 0 := Int.emod_eq_zero_of_dvd (Int.dvd_add (Int.dvd_of_emod_eq_zero h) (Int.dvd_of_emod_eq_zero k))
theorem z_sub {p a b : Int} (h : a % p = 0) (k : b % p = 0) : (a - b) % p = 0 := Int.emod_eq_zero_of_dvd (Int.dvd_sub (Int.dvd_of_emod_eq_zero h) (Int.dvd_of_emod_eq_zero k))
theorem left_eq {p a c : Int} : ((a - c) % p - a + c) % p = 0 := by
  have h1 := Int.emod_add_mul_ediv (a - c) p
  rw [show (a - c) % p - a + c = p * (-((a - c) / p)) by rw [Int.mul_neg]; omega]
  exact Int.mul_emod_right _ _
theorem DvJ.high {p deg d c : Int} {A0 R0 A R h : Pol} {u : Int × Int} (j : DvJ p deg d c A0 R0 A R h) (hp : 0 < p) (h1 : deg ≤ u.1 + d) (h2 : u.1 ≤ deg) :
    DvJ p deg d c A0 R0 (stp A (u.1 + d) ((cf A (u.1 + d) - c * u.2) % p)) R (h ++ [u]) := by
  refine ⟨j.ra.stp _ (Int.emod_nonneg _ (by omega)) (Int.emod_lt_of_pos _ hp), j.rr, fun y hy => ?_, j.kr, fun e => ?_⟩
  · rcases stp_keys hy with ⟨z, _⟩ | ⟨_, z⟩
    · omega
    · exact j.ka y z
  · rw [stp_cf _ _ j.ra.nd, times_snoc, cf_append, cf_cons, cf_nil]
    have he := j.eq e
    by_cases z : e = u.1 + d
    · rw [if_pos z, if_pos (by show d + u.1 = e; omega), ← z]
      have := z_add he (left_eq (p := p) (a := cf A e) (c := c * u.2))
      refine Eq.trans (congrArg (· % p) ?_) this
      show _ + (cf (times (d, c) h) e + (c * u.2 + 0)) = _
      omega
    · rw [if_neg z, if_neg (by show ¬ (d + u.1 = e); omega)]
      refine Eq.trans (congrArg (· % p) ?_) he
      omega
theorem DvJ.low {p deg d c : Int} {A0 R0 A R h : Pol} {u : Int × Int} (j : DvJ p deg d c A0 R0 A R h) (hp : 0 < p) (h1 : u.1 + d < deg) :
    DvJ p deg d c A0 R0 A (stp R (u.1 + d) ((cf R (u.1 + d) - c * u.2) % p)) (h ++ [u]) := by
  refine ⟨j.ra, j.rr.stp _ (Int.emod_nonneg _ (by omega)) (Int.emod_lt_of_pos _ hp), j.ka, fun y hy => ?_, fun e => ?_⟩
  · rcases stp_keys hy with ⟨z, _⟩ | ⟨_, z⟩
    · omega
    · exact j.kr y z
  · rw [stp_cf _ _ j.rr.nd, times_snoc, cf_append, cf_cons, cf_nil]
    have he := j.eq e
    by_cases z : e = u.1 + d
    · rw [if_pos z, if_pos (by show d + u.1 = e; omega), ← z]
      have := z_add he (left_eq (p := p) (a := cf R e) (c := c * u.2))
      refine Eq.trans (congrArg (· % p) ?_) this
      show _ + (cf (times (d, c) h) e + (c * u.2 + 0)) = _
      omega
    · rw [if_neg z, if_neg (by show ¬ (d + u.1 = e); omega)]
      refine Eq.trans (congrArg (· % p) ?_) he
      omega
theorem DvI.next {p deg d c un lead : Int} {f g0 A R Q A' R' : Pol} {m : Nat} (h : DvI p deg f (g0 ++ [(deg, lead)]) A R Q m) (hp : 0 < p) (d0 : 0 ≤ d) (hd : d < m) (hg : ∀ t ∈ g0, t.1 < deg)
    (hu : un * lead % p = 1 % p) (hc : c = cf A (deg + d) * un % p) (j : DvJ p deg d c A R A' R' (g0 ++ [(deg, lead)])) :
    DvI p deg f (g0 ++ [(deg, lead)]) A' R' (put Q d c) d.toNat := by
  have hnew : d ∉ Q.map (·.1) := fun z => by
    have := h.kq d z
    omega
  refine ⟨j.ra, j.rr, put_nodup _ _ _ h.nq, fun y hy => ?_, j.kr, fun y hy => ?_, fun e => ?_⟩
  · have hk := j.ka y hy
    refine ⟨hk.1, ?_⟩
    rw [Int.toNat_of_nonneg d0]
    by_cases z : y = deg + d
    · exfalso
      have e1 := j.eq y
      have r1 : cf R y = 0 := cf_out fun q => by have := h.kr y q; omega
      have r2 : cf R' y = 0 := cf_out fun q => by have := j.kr y q; omega
      have g1 : cf (times (d, c) (g0 ++ [(deg, lead)])) y = c * lead := by
        rw [cf_times, cf_append]
        have q0 : cf g0 (y - (d, c).1) = 0 := cf_none _ _ fun t ht => by
          have := hg t ht
          show t.1 ≠ y - d
          omega
        rw [q0, cf_cons, if_pos (by show deg = y - d; omega), cf_nil]
        show c * (0 + (lead + 0)) = _
        rw [Int.zero_add, Int.add_zero]
      rw [r1, r2, g1] at e1
      have e2 : (c * lead - cf A y) % p = 0 := by
        rw [hc, ← z]
        have : (cf A y * un % p * lead - cf A y) % p = 0 := by
          rw [Int.sub_emod, mul_emod_l, Int.mul_assoc, Int.mul_emod, hu, ← Int.mul_emod, Int.mul_one, Int.sub_self, Int.zero_emod]
        exact this
      have e3 := z_sub e1 e2
      rw [show cf A' y + 0 - (cf A y + 0) + c * lead - (c * lead - cf A y) = cf A' y by omega] at e3
      have hv := j.ra.vl y hy
      rw [Int.emod_eq_of_lt (by omega) hv.2] at e3
      omega
    · omega
  · rw [Int.toNat_of_nonneg d0]
    rcases put_keys _ _ _ _ hy with z | z
    · omega
    · have := h.kq y z
      omega
  · rw [put_new hnew, prods_snoc, cf_append]
    have e1 := h.eq e
    have e2 := j.eq e
    have e3 := z_add e1 e2
    refine Eq.trans (congrArg (· % p) ?_) e3
    omega
theorem none_in {H H' : Hp} {d : Addr} (s : Same H H') (h : H' d = none) : H d = none := by
  cases q : H d with
  | none => rfl
  | some o => rw [s _ _ q] at h; cases h
theorem TPol.same {K : PySem.W.Frag} {H H' : Hp} {v : V} {f : Pol} (s : Same H H') (h : TPol K H v f) : TPol K H' v f := by
  obtain ⟨a, xs, rfl, h1, h2⟩ := h
  exact ⟨a, xs, rfl, same_t s h1, Prs.tp (Same.tp s) h2⟩
theorem at_neg1 {xs : List V} {n : Nat} {v : V} (hl : xs.length = n + 1) (h : xs[n]? = some v) : atI xs (-1) = some v := by
  have e : xs = xs.take n ++ [v] := by
    rw [← take_snoc h, ← hl, List.take_length]
  rw [e]
  exact atI_last _ _
theorem there_some {m : Pol} {e : Int} (hn : (m.map (·.1)).Nodup) (h : e ∈ m.map (·.1)) : (valV (kvOf m) (Sum.inl e : Key)).isSome = true := by
  rw [kv_val m e hn, if_pos h]
  rfl
theorem kvOf_nil {m : Pol} (h : (!(kvOf m).isEmpty) = false) : m = [] := by
  cases m with
  | nil => rfl
  | cons _ _ => cases h
theorem kvOf_pos {m : Pol} (h : (!(kvOf m).isEmpty) = true) : 0 < (m.map (·.1)).length := by
  cases m with
  | nil => cases h
  | cons _ _ => exact Nat.succ_pos _
def sp_divide_with_rest (K : PySem.W.Frag) : Sp := fun vs H Q _ => ∃ (p : Int) (v1 v2 : V) (f g : Pol) (deg : Int) (N : Nat), vs = [.int p, v1, v2] ∧ p ∈ primes ∧ TPol K H v1 f ∧ TPol K H v2 g ∧ Nf p f (cf f) ∧ Nf p g (cf g) ∧ (∃ g0 lead, g = g0 ++ [(deg, lead)]) ∧ (∀ t ∈ f, t.1 < deg + N) ∧ f.length + (N + 1) * g.length ≤ 1000000 ∧
  ∀ (a : Addr) (x y : V) (H' : Hp) (q r : Pol), Same H H' → SqT K H' a [x, y] → TPol K H' x q → TPol K H' y r → Nf p q (cf q) → Nf p r (cf r) → (∀ t ∈ q, 0 ≤ t.1 ∧ t.1 < N) → (∀ t ∈ r, t.1 < deg) → q.length ≤ N → r.length ≤ f.length + N * g.length → (∀ e, (cf r e + cf (prods q g) e - cf f e) % p = 0) → Q (.ref a) H'
end DR
namespace DR
open PySem PySem.Spec PyProof.Rows L2
/-! ### products that are others -/
theorem eq_of_sub {a b p : Int} (h : (a - b) % p = 0) : a % p = b % p := Int.emod_eq_emod_iff_emod_sub_eq_zero.mpr h
theorem sub_of_eq {a b p : Int} (h : a % p = b % p) : (a - b) % p = 0 := Int.emod_eq_emod_iff_emod_sub_eq_zero.mp h
theorem prime_cut {p : Int} (hp : p ∈ primes) {a x : Int} (h0 : 0 < a) (h9 : a < p) (h : a * x % p = 0) : x % p = 0 := by
  have hr := prime_rng p hp
  by_cases z : x % p = 0
  · exact z
  · have m0 := Int.emod_nonneg x (show p ≠ 0 by omega)
    have m1 := Int.emod_lt_of_pos x (show 0 < p by omega)
    refine absurd ?_ (prime_nz hp h0 h9 (show 0 < x % p by omega) m1)
    rw [Int.mul_comm, mul_emod_l, Int.mul_comm]
    exact h
theorem conv_gone {p : Int} {D : Int → Int} {E : Int} : ∀ (g : Pol), (∀ t ∈ g, D (E - t.1) % p = 0) → conv g D E % p = 0
  | [], _ => Int.zero_emod _
  | t :: r, h => by
    show (t.2 * D (E - t.1) + conv r D E) % p = 0
    refine z_add ?_ (conv_gone r fun u hu => h u (List.mem_cons_of_mem _ hu))
    rw [Int.mul_emod, h t List.mem_cons_self, Int.mul_zero, Int.zero_emod]
/-- what has no top has nothing -/
theorem top_zero {p : Int} (hp : p ∈ primes) {g0 : Pol} {deg lead : Int} (ng : Nf p (g0 ++ [(deg, lead)]) (cf (g0 ++ [(deg, lead)]))) {D : Int → Int} {B lo : Int} (hB : ∀ e, B ≤ e → D e % p = 0) (hz : ∀ e, lo ≤ e → conv (g0 ++ [(deg, lead)]) D (e + deg) % p = 0) : ∀ e, lo ≤ e → D e % p = 0 := by
  have glow : ∀ t ∈ g0, t.1 < deg := fun t ht => (List.pairwise_append.mp ng.asc).2.2 t ht (deg, lead) (by simp)
  have gl := ng.rng (deg, lead) (by simp)
  have key : ∀ n : Nat, ∀ e, lo ≤ e → B - n ≤ e → D e % p = 0 := by
    intro n
    induction n with
    | zero => exact fun e _ h => hB e (by omega)
    | succ n ih =>
      intro e h1 h2
      by_cases z : B - n ≤ e
      · exact ih e h1 z
      · have hc := hz e h1
        rw [conv_append] at hc
        have h0 := conv_gone (p := p) (D := D) (E := e + deg) g0 fun t ht => by
          have := glow t ht
          exact ih _ (by omega) (by omega)
        have hc2 := z_sub hc h0
        rw [show conv g0 D (e + deg) + conv [(deg, lead)] D (e + deg) - conv g0 D (e + deg) = conv [(deg, lead)] D (e + deg) by omega] at hc2
        have e3 : conv [(deg, lead)] D (e + deg) = lead * D e := by
          show lead * D (e + deg - deg) + 0 = _
          rw [show e + deg - deg = e by omega, Int.add_zero]
        rw [e3] at hc2
        exact prime_cut hp gl.1 gl.2 hc2
  intro e he
  exact key (B - e).toNat e he (by omega)
theorem pol_top (f : Pol) : ∃ B : Int, ∀ e, B ≤ e → cf f e = 0 := by
  induction f with
  | nil => exact ⟨0, fun _ _ => rfl⟩
  | cons t r ih =>
    obtain ⟨B, hB⟩ := ih
    refine ⟨max B (t.1 + 1), fun e he => ?_⟩
    rw [cf_cons, if_neg (by omega), hB e (by omega)]
    rfl
theorem ne_snoc {g : Pol} (h : g ≠ []) : ∃ g0 deg lead, g = g0 ++ [(deg, lead)] := ⟨g.dropLast, (g.getLast h).1, (g.getLast h).2, (List.dropLast_concat_getLast h).symm⟩
theorem conv_sub (G G' : Int → Int) (f : Pol) (e : Int) : conv f (fun x => G x - G' x) e = conv f G e - conv f G' e := by
  have h := conv_add G (fun x => -1 * G' x) f e
  rw [conv_smul] at h
  rw [show conv f G e - conv f G' e = conv f G e + -1 * conv f G' e by omega, ← h]
  exact conv_congr (fun x => by omega) f e
/-- cancelling -/
theorem conv_cancel {p : Int} (hp : p ∈ primes) {g q f : Pol} (ng : Nf p g (cf g)) (hg : g ≠ []) (h : ∀ e, conv q (cf g) e % p = conv f (cf g) e % p) (e : Int) : cf q e % p = cf f e % p := by
  obtain ⟨g0, deg, lead, rfl⟩ := ne_snoc hg
  obtain ⟨B1, h1⟩ := pol_top q
  obtain ⟨B2, h2⟩ := pol_top f
  refine eq_of_sub (top_zero hp ng (D := fun x => cf q x - cf f x) (B := max B1 B2) (lo := e) (fun x hx => ?_) (fun x _ => ?_) e (Int.le_refl _))
  · show (cf q x - cf f x) % p = 0
    rw [h1 x (by omega), h2 x (by omega)]
    exact Int.zero_emod _
  · rw [conv_sub, conv_comm q, conv_comm f]
    exact sub_of_eq (h _)
/-- g divides f -/
def Dv (p : Int) (g f : Pol) : Prop := ∃ h, Nf p h (cf h) ∧ ∀ e, conv h (cf g) e % p = cf f e % p
theorem conv_mv (n : Int) (q g : Pol) (e : Int) : conv q (cf (moved n g)) e = conv q (cf g) (e - n) := by
  rw [conv_comm, conv_moved, conv_comm]
theorem Nf.mv {p : Int} {g : Pol} (h : Nf p g (cf g)) (n : Int) : Nf p (DR.moved n g) (cf (DR.moved n g)) := (h.moved n).to fun e => by rw [cf_moved]
theorem Dv.mv {p : Int} {g f : Pol} (n m : Int) (h : Dv p g f) : Dv p (moved n g) (moved m f) := by
  obtain ⟨q, nq, hq⟩ := h
  refine ⟨moved (m - n) q, nq.mv _, fun e => ?_⟩
  rw [conv_moved, conv_mv, cf_moved, hq, show e - (m - n) - n = e - m by omega]
theorem moved_back (n m : Int) (f : Pol) : moved n (moved m f) = moved (m + n) f := by
  unfold moved
  rw [List.map_map]
  refine List.map_congr_left fun t _ => ?_
  show (t.1 + m + n, t.2) = (t.1 + (m + n), t.2)
  rw [Int.add_assoc]
theorem moved_zero (f : Pol) : moved 0 f = f := by
  unfold moved
  conv => rhs; rw [← List.map_id f]
  refine List.map_congr_left fun t _ => ?_
  show (t.1 + 0, t.2) = t
  rw [Int.add_zero]
/-- there is no other quotient, and no rest beside it -/
theorem dv_rest {p : Int} (hp : p ∈ primes) {f g q r : Pol} {deg : Int} (nf : Nf p f (cf f)) (ng : Nf p g (cf g)) (nq : Nf p q (cf q)) (nr : Nf p r (cf r)) (hf : f ≠ []) (hg : ∃ g0 lead, g = g0 ++ [(deg, lead)]) (hg0 : ∃ l g1, g = (0, l) :: g1) (hf0 : ∀ t ∈ f, 0 ≤ t.1)
    (hq0 : ∀ t ∈ q, 0 ≤ t.1) (hr : ∀ t ∈ r, t.1 < deg) (h : ∀ e, (cf r e + cf (prods q g) e - cf f e) % p = 0) (hd : Dv p g f) : r = [] := by
  obtain ⟨w, nw, hw⟩ := hd
  have hw0 : ∀ t ∈ w, 0 ≤ t.1 := by
    cases w with
    | nil => exact fun t ht => absurd ht List.not_mem_nil
    | cons t ws =>
      intro u hu
      have hle := asc_le nw.asc hu
      obtain ⟨l, g1, rfl⟩ := hg0
      have h1 := conv_least nw.asc ng.asc
      have h2 := hw (t.1 + 0)
      have e1 : conv (t :: ws) (cf ((0, l) :: g1)) (t.1 + 0) = t.2 * l := h1
      rw [e1] at h2
      have h3 := nw.rng t List.mem_cons_self
      have h4 := ng.rng (0, l) List.mem_cons_self
      have h5 := prime_nz hp h3.1 h3.2 h4.1 h4.2
      rw [Int.add_zero] at h2
      by_cases z : cf f t.1 = 0
      · rw [z, Int.zero_emod] at h2
        exact absurd h2 h5
      · obtain ⟨s, hs, e⟩ := cf_ne z
        have := hf0 s hs
        omega
  obtain ⟨g0, lead, rfl⟩ := hg
  obtain ⟨B1, h1⟩ := pol_top q
  obtain ⟨B2, h2⟩ := pol_top w
  have hr' : ∀ e, cf r e % p = (conv (g0 ++ [(deg, lead)]) (fun x => cf w x - cf q x) e) % p := fun e => by
    rw [conv_sub]
    refine eq_of_sub ?_
    have a1 := h e
    rw [cf_prods, conv_comm] at a1
    have a2 := sub_of_eq (hw e)
    rw [conv_comm] at a2
    refine Eq.trans (congrArg (· % p) ?_) (z_sub a1 a2)
    omega
  have key := top_zero hp ng (D := fun x => cf w x - cf q x) (B := max B1 B2) (lo := 0) (fun x hx => by
    show (cf w x - cf q x) % p = 0
    rw [h1 x (by omega), h2 x (by omega)]
    exact Int.zero_emod _) (fun x hx => by
    rw [← hr', cf_none r _ fun t ht => by have := hr t ht; omega]
    exact Int.zero_emod _)
  have all : ∀ e, (cf w e - cf q e) % p = 0 := fun e => by
    by_cases z : 0 ≤ e
    · exact key e z
    · rw [cf_none w e fun t ht => by have := hw0 t ht; omega, cf_none q e fun t ht => by have := hq0 t ht; omega]
      exact Int.zero_emod _
  refine nr.uniq (F' := fun _ => 0) (g' := []) ⟨List.Pairwise.nil, fun t ht => absurd ht List.not_mem_nil, fun e => (Int.zero_emod _).symm⟩ fun e => ?_
  rw [hr' e, conv_gone _ fun t _ => all _]
  exact (Int.zero_emod _).symm
def sp_divide (K : PySem.W.Frag) : Sp := fun vs H Q _ => ∃ (p : Int) (v1 v2 : V) (f g : Pol) (N : Nat), vs = [.int p, v1, v2] ∧ p ∈ primes ∧ TPol K H v1 f ∧ TPol K H v2 g ∧ Nf p f (cf f) ∧ Nf p g (cf g) ∧ g ≠ [] ∧ (∀ t ∈ f, ∀ s ∈ f, t.1 - s.1 < N) ∧ f.length + (N + 1) * g.length ≤ 1000000 ∧
  ∀ u H', Same H H' → ((u = .non ∧ ¬ Dv p g f) ∨ ∃ q, TPol K H' u q ∧ Nf p q (cf q) ∧ (∀ e, conv q (cf g) e % p = cf f e % p) ∧ q.length ≤ N) → Q u H'
end DR
namespace DR
open PySem PySem.Spec PyProof.Rows L2
theorem pol_bot (f : Pol) : ∃ B : Int, ∀ e, e ≤ B → cf f e = 0 := by
  induction f with
  | nil => exact ⟨0, fun _ _ => rfl⟩
  | cons t r ih =>
    obtain ⟨B, hB⟩ := ih
    refine ⟨min B (t.1 - 1), fun e he => ?_⟩
    rw [cf_cons, if_neg (by omega), hB e (by omega)]
    rfl
/-- every sum has its normal form -/
theorem nf_ex {p : Int} (hp : 0 < p) (m : Pol) : ∃ g, Nf p g (cf m) := by
  obtain ⟨B, hB⟩ := pol_top m
  obtain ⟨L, hL⟩ := pol_bot m
  have asc : ((List.range (B - L).toNat).map fun i : Nat => L + (i : Int)).Pairwise (· < ·) := by
    rw [List.pairwise_map]
    exact List.pairwise_lt_range.imp fun h => by omega
  refine ⟨_, kept_nf hp (ys := (List.range (B - L).toNat).map fun i : Nat => L + (i : Int)) (asc.imp fun h => by omega) (asc.imp fun h => by omega) fun e he => ?_⟩
  by_cases h1 : e ≤ L
  · rw [hL e h1]; exact Int.zero_emod _
  · by_cases h2 : B ≤ e
    · rw [hB e h2]; exact Int.zero_emod _
    · refine absurd (List.mem_map.mpr ⟨(e - L).toNat, List.mem_range.mpr (by omega), ?_⟩) he
      show L + ((e - L).toNat : Int) = e
      omega
theorem prods_bd {p : Int} {f g r : Pol} (nr : Nf p r (cf (prods f g))) {A B : Nat} (hf : ∀ t ∈ f, t.1.natAbs ≤ A) (hg : ∀ t ∈ g, t.1.natAbs ≤ B) : ∀ t ∈ r, t.1.natAbs ≤ A + B := nr.subP (R := fun x => x.natAbs ≤ A + B) fun e he => by
  rw [cf_none _ e fun t ht z => ?_]
  · exact Int.zero_emod _
  · obtain ⟨a, ha, b, hb, q⟩ := prods_mem ht
    have h1 := hf a ha
    have h2 := hg b hb
    rw [q] at z
    have z : a.1 + b.1 = e := z
    omega
theorem wid {f : Pol} {A : Nat} (h : ∀ t ∈ f, t.1.natAbs ≤ A) {N : Nat} (hN : 2 * A < N) : ∀ t ∈ f, ∀ s ∈ f, t.1 - s.1 < (N : Int) := fun t ht s hs => by
  have := h t ht
  have := h s hs
  omega
theorem dv_mono {p : Int} (hp : p ∈ primes) (f : Pol) (place : Int) {c : Int} (h0 : 0 < c) (h9 : c < p) : Dv p [(place, c)] f := by
  have hpr := prime_rng p hp
  obtain ⟨u, hu, hu0, hua⟩ := inv_there p hp c.toNat (List.mem_range.mpr (by omega)) (by omega)
  rw [Int.toNat_of_nonneg (by omega)] at hua
  obtain ⟨h, nh⟩ := nf_ex (p := p) (by omega) ((moved (-place) f).map fun t => (t.1, t.2 * (u : Int)))
  refine ⟨h, nh.self, fun e => ?_⟩
  rw [conv_comm]
  show (c * cf h (e - place) + 0) % p = _
  rw [nh.cof, cf_scale, cf_moved, Int.add_zero, Int.mul_comm, mul_emod_l, show e - place - -place = e by omega, Int.mul_assoc, Int.mul_emod, hua]
  have : (1 : Int) % p = 1 := Int.emod_eq_of_lt (by decide) (by omega)
  rw [← this, ← Int.mul_emod, Int.mul_one]
/-- what the quotient by one term gives -/
theorem mono_back {p : Int} {q f r : Pol} {place c : Int} (h : ∀ e, conv q (cf [(place, c)]) e % p = cf f e % p) (nf : Nf p f (cf f)) (nr : Nf p r (fun e => cf (moved place q) e * c)) : r = f := nr.uniq nf fun e => by
  have h1 := h e
  rw [conv_comm] at h1
  rw [← h1, cf_moved]
  show _ = (c * cf q (e - place) + 0) % p
  rw [Int.add_zero, Int.mul_comm]
theorem gap_conv {p : Int} {n : Int} {h g : Pol} (ng : Nf p g (fun e => cf [(0, 1)] e - cf [(n, 1)] e)) (e : Int) : conv h (cf g) e % p = (cf h e - cf h (e - n)) % p := by
  rw [conv_mod (G' := fun x => cf [(0, 1)] x - cf [(n, 1)] x) (fun x => by rw [ng.cof, Int.emod_emod]) h e, conv_sub, conv_comm [(0, 1)], conv_comm [(n, 1)]]
  show (1 * cf h (e - 0) + 0 - (1 * cf h (e - n) + 0)) % p = _
  rw [Int.sub_zero, Int.one_mul, Int.one_mul, Int.add_zero, Int.add_zero]
theorem gap_ne {p n : Int} {g : Pol} (hp : 2 ≤ p) (hn : n ≠ 0) (ng : Nf p g (fun e => cf [(0, 1)] e - cf [(n, 1)] e)) : g ≠ [] := fun z => by
  have h := ng.cof 0
  have e1 : cf [(0, 1)] (0 : Int) = 1 := rfl
  have e2 : cf [(n, 1)] (0 : Int) = 0 := cf_none _ _ fun t ht => by rw [List.mem_singleton.mp ht]; exact hn
  rw [z, e1, e2] at h
  rw [show (1 : Int) - 0 = 1 from rfl, Int.emod_eq_of_lt (by decide) (by omega)] at h
  cases h
theorem gap_bd {p n : Int} {g : Pol} {A : Nat} (hn : n.natAbs ≤ A) (ng : Nf p g (fun e => cf [(0, 1)] e - cf [(n, 1)] e)) : ∀ t ∈ g, t.1.natAbs ≤ A := ng.subP (R := fun x => x.natAbs ≤ A) fun e he => by
  rw [cf_none [(0, 1)] e fun t ht z => ?_, cf_none [(n, 1)] e fun t ht z => ?_]
  · exact Int.zero_emod _
  · rw [List.mem_singleton.mp ht] at z
    have z : n = e := z
    omega
  · rw [List.mem_singleton.mp ht] at z
    have z : (0 : Int) = e := z
    omega
/-- 1 - t ** n divides no 1 - t ** w where n does not divide w -/
theorem gap_no {p w n : Int} {f g : Pol} (hp : 2 ≤ p) (hn : 0 < n) (hw : w % n ≠ 0) (nf : Nf p f (fun e => cf [(0, 1)] e - cf [(w, 1)] e)) (ng : Nf p g (fun e => cf [(0, 1)] e - cf [(n, 1)] e)) : ¬ Dv p g f := by
  rintro ⟨h, nh, hh⟩
  have step : ∀ k : Int, (cf h (k * n) - cf h ((k - 1) * n)) % p = (if k = 0 then 1 else 0) % p := fun k => by
    have h1 := hh (k * n)
    rw [gap_conv ng, nf.cof, Int.emod_emod] at h1
    rw [show k * n - n = (k - 1) * n by rw [Int.sub_mul, Int.one_mul]] at h1
    rw [h1]
    have e2 : cf [(w, 1)] (k * n) = 0 := cf_none _ _ fun t ht z => by
      rw [List.mem_singleton.mp ht] at z
      have z : w = k * n := z
      exact hw (by rw [z]; exact Int.mul_emod_left _ _)
    rw [e2, Int.sub_zero]
    congr 1
    show (if (0 : Int) = k * n then 1 else 0) + 0 = _
    rw [Int.add_zero]
    by_cases z : k = 0
    · rw [if_pos z, if_pos (by rw [z, Int.zero_mul])]
    · rw [if_neg z, if_neg (fun y => ?_)]
      rcases Int.mul_eq_zero.mp y.symm with a | a
      · exact z a
      · omega
  obtain ⟨B, hB⟩ := pol_top h
  obtain ⟨L, hL⟩ := pol_bot h
  have up : ∀ j : Nat, cf h ((j : Int) * n) % p = cf h 0 % p := by
    intro j
    induction j with
    | zero => rw [show ((0 : Nat) : Int) * n = 0 by rw [Int.natCast_zero, Int.zero_mul]]
    | succ j ih =>
      have := step ((j + 1 : Nat) : Int)
      rw [if_neg (by omega), show ((j + 1 : Nat) : Int) - 1 = (j : Int) by omega, Int.zero_emod] at this
      rw [← ih]
      exact eq_of_sub this
  have dn : ∀ j : Nat, cf h ((-1 - (j : Int)) * n) % p = cf h ((-1) * n) % p := by
    intro j
    induction j with
    | zero => rfl
    | succ j ih =>
      have := step (-1 - (j : Int))
      rw [if_neg (by omega), show -1 - (j : Int) - 1 = -1 - ((j + 1 : Nat) : Int) by omega, Int.zero_emod] at this
      rw [← ih]
      exact (eq_of_sub this).symm
  have big : ∀ x : Int, x ≤ (x.toNat : Int) * n := fun x => by
    have h1 : (x.toNat : Int) * 1 ≤ (x.toNat : Int) * n := Int.mul_le_mul_of_nonneg_left (by omega) (by omega)
    rw [Int.mul_one] at h1
    omega
  have z1 : cf h 0 % p = 0 := by
    rw [← up B.toNat, hB _ (big B)]
    exact Int.zero_emod _
  have z2 : cf h ((-1) * n) % p = 0 := by
    rw [← dn (-L).toNat, hL _ ?_]
    · exact Int.zero_emod _
    · have := big (-L)
      rw [Int.sub_mul]
      omega
  have s0 := step 0
  rw [if_pos rfl, Int.zero_mul, show (0 : Int) - 1 = -1 from rfl, z_sub z1 z2, Int.emod_eq_of_lt (by decide) (by omega)] at s0
  cases s0
theorem iteW {c A B : Prop} [Decidable c] (hc : ¬ c) (h : A) : if (!decide c) = true then A else B := by
  rw [if_pos (by rw [decide_eq_false hc]; rfl)]
  exact h
/-! ### a word of one's own where a statement, a value or a test ends -/
section
variable {X : Cx}
def tCut (t : TS) : TS := fun D σ H => ∃ M : L2.St → Hp → Prop, t { D with nx := M } σ H ∧ ∀ σ' H', M σ' H' → D.nx σ' H'
theorem ps_cut {st : Stmt} {t : TS} (h : PS X st t) : PS X st (tCut t) := by
  refine ⟨fun pins s σ H D I q => ?_⟩
  obtain ⟨M, h1, h2⟩ := q
  refine thn (h.run pins s σ H _ I h1) fun f s' r => ?_
  cases f with
  | next =>
    obtain ⟨σ', H', I', m⟩ := r
    exact ⟨σ', H', I', h2 σ' H' m⟩
  | brk => exact r
  | cont => exact r
  | ret u => exact r
def tCutE (t : TE) : TE := fun σ H Q => ∃ M : VK, t σ H M ∧ ∀ v H', M v H' → Q v H'
theorem pe_cut {e : Expr} {t : TE} (h : PE X e t) : PE X e (tCutE t) := by
  refine ⟨fun pins s σ H Q I q => ?_⟩
  obtain ⟨M, h1, h2⟩ := q
  exact thn (h.run pins s σ H _ I h1) fun u s' ⟨v, H', I', rv, m⟩ => ⟨v, H', I', rv, h2 v H' m⟩
def tCutT (t : TT) : TT := fun σ H Q => ∃ M : Bool → Hp → Prop, t σ H M ∧ ∀ b H', M b H' → Q b H'
theorem pt_cut {e : Expr} {t : TT} (h : PT X e t) : PT X e (tCutT t) := by
  refine ⟨fun pins s σ H Q I q => ?_⟩
  obtain ⟨M, h1, h2⟩ := q
  exact thn (h.run pins s σ H _ I h1) fun b s' ⟨H', I', m⟩ => ⟨H', I', h2 b H' m⟩
end
end DR
namespace L2
open PySem PySem.Spec PyProof.Rows
section
variable {X : Cx} {pos : Pos}
/-- X(), X an own exception class without own __init__ -/
theorem pmk_own0 {C : Addr} {bmB : List Value} {B newId initId : String} {x : Str} {p : Pos} (F : ExcBaseFacts B newId initId bmB) (q : PySem.W.excIn X.K C bmB newId = true) (gC : X.mg x = some (.ref C))
    (kC : PySem.W.keepIn X.K (.ref C) = true) (r : Raises X (.ref C)) (hg : Gl X x) (hdb : (x == ("__debug__" : Str)) = false := by decide) :
    PMk X (.Call (.Name x p) [] [] pos) (fun σ H Q => Q (.ref C) none H) := by
  intro pins s σ H Q I h
  refine wpAny_Call_Name_kw (ld_glob I hg gC ?_ hdb)
  refine PySem.W.callWith_K0 I.kIn kC ?_
  show wpAny _ _ (call (.ref C) []) _ _ _
  obtain ⟨bm, N, nm, qn, bs, hdct, sn, sub, ab, col, dd, k0, k1, k2, k3, k5, mN, hC, hN, hni, T⟩ := exc_obj I.kIn q
  refine wpAny_call_exc_subT F T hC hN hni (fun h' e hm => ?_) (Nat.zero_le _)
  exact mk_of I hm r h (I.hok.gone hm.new)
end
end L2
namespace DR
open PySem PySem.Spec PyProof.Rows L2
/-- an own exception class over ArithmeticError, without own __init__ -/
structure OwnX (K : PySem.W.Frag) (mg : Str → Option Value) (x : Str) (C : Addr) : Prop where
  mg : mg x = some (.ref C)
  ex : PySem.W.excIn K C [.type "ArithmeticError", .type "Exception", .type "BaseException", .type "object"] "ArithmeticError.__new__" = true
  kp : PySem.W.keepIn K (.ref C) = true
  sub : PySem.W.subIn K (.ref C) (.type "BaseException") = some true
  ty : PySem.W.typeIn K (.ref C) = some (.type "type")
/-- raise X() -/
theorem ps_raise0 {X : Cx} {W : WX} {C : Addr} {x : Str} {p pos pos' : Pos} (Z : OwnX X.K X.mg x C) (hc : X.calm = true) (tk : Takes X W) (hg : Gl X x) (hdb : (x == ("__debug__" : Str)) = false := by decide) :
    PS X (.Raise (some (.Call (.Name x p) [] [] pos)) none pos') (fun _ σ H => W (.ref C) none σ H) :=
  ps_raise hc tk (pmk_own0 PySem.F.excBase_ArithmeticError Z.ex Z.mg Z.kp (raises_own Z.sub Z.ty) hg hdb)
/-! ### a def that may raise, by its name -/
structure CalE (P : Program) (w : World) (K : PySem.W.Frag) (mg : Str → Option Value) (base : Heap) (k : Nat) (x : Str) (sp : Sp) : Prop where
  ex : ∃ (f : Addr) (fd : FuncData) (ps : List Str), FnOk P w K mg base (L2.CX P w) k f fd ps sp ∧ mg x = some (.ref f) ∧ PySem.W.keepIn K (.ref f) = true ∧ Binds K fd ps []
theorem cal_ofE {P : Program} {w : World} {K : PySem.W.Frag} {mg : Str → Option Value} {base : Heap} {k : Nat} {x : Str} {st : Stmt} {ps : List Str} {sp : Sp} (D : Df K mg x st)
    (b : ∀ (kV doc pm : Value) (an : Option Addr) (cdv ct : Value) (us : List Value), us.length = ps.length → bindArgs (PySem.W.fnOf x x (defArgs st) (defBody st) (defScope st) .none kV doc pm an cdv ct) ⟨us, []⟩ = pure (ps.zip us))
    (ok : ∀ f fd, Fun K x x st f fd → FnOk P w K mg base (L2.CX P w) k f fd ps sp) : CalE P w K mg base k x sp := by
  obtain ⟨f, fd, F, hm, kp⟩ := D.ex
  exact ⟨f, fd, ps, ok f fd F, hm, kp, F.binds b⟩
/-- its call, where nothing is raised -/
theorem pe_cE0 {X : Cx} {k j : Nat} {x : Str} {sp : Sp} {p pos : Pos} {e : Expr} {es : List Expr} {t : TA} (c : CalE X.prog X.w X.K X.mg X.base k x sp) (hr : Room j X.A) (hk : k ≤ j) (hg : Gl X x) (ha : PA X (e :: es) t)
    (h1 : (x == ("__debug__" : Str)) = false := by decide) (h2 : starEach (e :: es) X.env = (false, eval e X.env) :: starEach es X.env := by rfl) (h3 : (backTo pos (starEach es X.env)).any (·.1) = false := by rfl) :
    PE X (.Call (.Name x p) (e :: es) [] pos) (tCall sp [] E0 t) := by
  obtain ⟨f, fd, ps, F, hm, kp, b⟩ := c.ex
  exact pe_call F (hr.mono hk) hg hm kp b .nil passL ha h1 h2 h3
/-- its call, where what it raises is taken -/
theorem pe_cE {X : Cx} {W : WX} {k j : Nat} {x : Str} {sp : Sp} {p pos : Pos} {e : Expr} {es : List Expr} {t : TA} (c : CalE X.prog X.w X.K X.mg X.base k x sp) (tk : Takes X W) (hr : Room j X.A) (hk : k ≤ j) (hg : Gl X x) (ha : PA X (e :: es) t)
    (h1 : (x == ("__debug__" : Str)) = false := by decide) (h2 : starEach (e :: es) X.env = (false, eval e X.env) :: starEach es X.env := by rfl) (h3 : (backTo pos (starEach es X.env)).any (·.1) = false := by rfl) :
    PE X (.Call (.Name x p) (e :: es) [] pos) (tCallS sp (WE W) t) := by
  obtain ⟨f, fd, ps, F, hm, kp, b⟩ := c.ex
  exact pe_callS F (hr.mono hk) hg hm kp b (fun σ => passAt tk σ) ha h1 h2 h3
/-- divide: by nothing it raises -/
def sp_divideX (K : PySem.W.Frag) (C : Addr) : Sp := fun vs H Q E => (∃ (p : Int) (v1 v2 : V), vs = [.int p, v1, v2] ∧ TPol K H v2 [] ∧ E (.ref C) none H) ∨ sp_divide K vs H Q E
/-- is it refused? -/
def sp__law_is_refused (K : PySem.W.Frag) : Sp := fun vs H Q _ => ∃ (p : Int) (v : V), vs = [.int p, v] ∧ ∀ H', Same H H' → Q (.bl true) H'
theorem pss_g {X : Cx} {b : List Stmt} {p : Prop} {t : TS} (h : p → PSs X b t) : PSs X b (fun D σ H => p ∧ t D σ H) := ⟨fun pins s σ H D I hh => (h hh.1).run pins s σ H D I hh.2⟩
/-- what isinstance says of a DivisionByZero -/
structure IsX (K : PySem.W.Frag) (mg : Str → Option Value) (C CT : Addr) : Prop where
  bt : mg "ArithmeticError" = none
  tl : mg "TooLong" = some (.ref CT)
  k1 : PySem.W.kitOne K (.ref C) (.type "ArithmeticError") = some true
  k2 : PySem.W.kitOne K (.ref C) (.ref CT) = some false
  ec : ExcC K C
  em : PySem.W.exmOne K (.ref C) (.ref C) = some true
end DR
namespace DR
open PySem PySem.Spec PyProof.Rows L2
/-- u is made of f and g -/
def In (p : Int) (f g u : Pol) : Prop := ∃ a b : Pol, ∀ e, (conv a (cf f) e + conv b (cf g) e) % p = cf u e % p
section
variable {p : Int} {f g u v w : Pol}
theorem conv_one (F : Int → Int) (n e : Int) : conv [(n, 1)] F e = F (e - n) := by
  show 1 * F (e - n) + 0 = _
  rw [Int.one_mul, Int.add_zero]
theorem conv_nil (F : Int → Int) (e : Int) : conv [] F e = 0 := rfl
theorem conv_scl (k : Int) (G : Int → Int) : ∀ (f : Pol) (e : Int), conv (f.map fun t => (t.1, t.2 * k)) G e = conv f G e * k
  | [], e => by show (0 : Int) = 0 * k; rw [Int.zero_mul]
  | t :: r, e => by
    show t.2 * k * G (e - t.1) + conv _ G e = (t.2 * G (e - t.1) + conv r G e) * k
    rw [conv_scl k G r e, Int.add_mul, Int.mul_right_comm]
theorem In.to (h : In p f g u) (k : ∀ e, cf u e % p = cf v e % p) : In p f g v := by
  obtain ⟨a, b, h⟩ := h
  exact ⟨a, b, fun e => (h e).trans (k e)⟩
theorem In.mvl (n : Int) : In p f g (moved n f) := ⟨[(n, 1)], [], fun e => by rw [conv_one, conv_nil, Int.add_zero, cf_moved]⟩
theorem In.l : In p f g f := ⟨[(0, 1)], [], fun e => by rw [conv_one, conv_nil, Int.add_zero, Int.sub_zero]⟩
theorem In.r : In p f g g := ⟨[], [(0, 1)], fun e => by rw [conv_one, conv_nil, Int.zero_add, Int.sub_zero]⟩
theorem In.z : In p f g [] := ⟨[], [], fun e => rfl⟩
theorem conv_two (a a1 b1 : Pol) (h : ∀ e, (conv a1 (cf f) e + conv b1 (cf g) e) % p = cf u e % p) (e : Int) : conv a (cf u) e % p = (conv (prods a a1) (cf f) e + conv (prods a b1) (cf g) e) % p := by
  rw [← conv_mod h a e, conv_add, conv_assoc, conv_assoc]
theorem In.trans (h1 : In p f g u) (h2 : In p f g v) (h3 : In p u v w) : In p f g w := by
  obtain ⟨a1, b1, h1⟩ := h1
  obtain ⟨a2, b2, h2⟩ := h2
  obtain ⟨a, b, h3⟩ := h3
  refine ⟨prods a a1 ++ prods b a2, prods a b1 ++ prods b b2, fun e => ?_⟩
  rw [← h3 e, Int.add_emod (conv a (cf u) e), conv_two a a1 b1 h1 e, conv_two b a2 b2 h2 e, ← Int.add_emod, conv_append, conv_append]
  congr 1
  omega
theorem In.mul (h : In p f g u) (c : Pol) {r : Pol} (hr : ∀ e, cf r e % p = conv c (cf u) e % p) : In p f g r := by
  obtain ⟨a1, b1, h⟩ := h
  exact ⟨prods c a1, prods c b1, fun e => by rw [hr, conv_two c a1 b1 h e]⟩
theorem In.add (h : In p f g u) (h2 : In p f g v) {r : Pol} (hr : ∀ e, cf r e % p = (cf u e + cf v e) % p) : In p f g r := by
  obtain ⟨a1, b1, h⟩ := h
  obtain ⟨a2, b2, h2⟩ := h2
  refine ⟨a1 ++ a2, b1 ++ b2, fun e => ?_⟩
  rw [hr, Int.add_emod (cf u e), ← h, ← h2, ← Int.add_emod, conv_append, conv_append]
  congr 1
  omega
theorem In.sub (h : In p f g u) (h2 : In p f g v) {r : Pol} (hr : ∀ e, cf r e % p = (cf u e - cf v e) % p) : In p f g r := by
  obtain ⟨a1, b1, h⟩ := h
  obtain ⟨a2, b2, h2⟩ := h2
  refine ⟨a1 ++ a2.map fun t => (t.1, t.2 * -1), b1 ++ b2.map fun t => (t.1, t.2 * -1), fun e => ?_⟩
  rw [hr, Int.sub_emod (cf u e), ← h, ← h2, ← Int.sub_emod, conv_append, conv_append, conv_scl, conv_scl]
  congr 1
  omega
theorem In.mv (h : In p f g u) (n : Int) : In p f g (moved n u) := h.mul [(n, 1)] fun e => by rw [conv_one, cf_moved]
theorem In.scl (h : In p f g u) (c : Int) {r : Pol} (hr : ∀ e, cf r e % p = cf u e * c % p) : In p f g r := h.mul [(0, c)] fun e => by
  rw [hr]
  show _ = (c * cf u (e - 0) + 0) % p
  rw [Int.sub_zero, Int.add_zero, Int.mul_comm]
theorem In.swap (h : In p f g u) : In p g f u := by
  obtain ⟨a, b, h⟩ := h
  exact ⟨b, a, fun e => by rw [Int.add_comm]; exact h e⟩
theorem In.dv (hp : 0 < p) (h : In p f [] u) : Dv p f u := by
  obtain ⟨a, b, h⟩ := h
  obtain ⟨a', na⟩ := nf_ex hp a
  refine ⟨a', na.self, fun e => ?_⟩
  rw [← h e, conv_fst (f' := a) (fun x => by rw [na.cof, Int.emod_emod]) f e]
  have : conv b (cf []) e = 0 := (conv_congr (G' := fun _ => 0) (fun _ => rfl) b e).trans (conv_zero b e)
  rw [this, Int.add_zero]
theorem Dv.in (h : Dv p f u) : In p f g u := by
  obtain ⟨q, _, h⟩ := h
  exact ⟨q, [], fun e => by rw [conv_nil, Int.add_zero]; exact h e⟩
theorem In.one (h : In p f [] u) : In p f g u := by
  obtain ⟨a, b, h⟩ := h
  refine ⟨a, [], fun e => ?_⟩
  rw [← h e, conv_nil]
  have : conv b (cf []) e = 0 := (conv_congr (G' := fun _ => 0) (fun _ => rfl) b e).trans (conv_zero b e)
  rw [this]
end
/-- zero, or from exponent 0 and with last coefficient 1 -/
structure Gd (p : Int) (d : Pol) : Prop where
  nf : Nf p d (cf d)
  nz : d = [] ∨ ((∃ l d1, d = (0, l) :: d1) ∧ ∃ d0 deg, d = d0 ++ [(deg, 1)])
theorem nf_zero {p : Int} {d : Pol} {F : Int → Int} (h : Nf p d F) (z : ∀ e, F e % p = 0) : d = [] := h.uniq (F' := fun _ => 0) (g' := []) ⟨List.Pairwise.nil, fun t ht => absurd ht List.not_mem_nil, fun e => (Int.zero_emod _).symm⟩ fun e => by rw [z]; exact (Int.zero_emod _).symm
theorem asc_last {f0 : Pol} {t : Int × Int} (h : (f0 ++ [t]).Pairwise fun x y => x.1 < y.1) : ∀ s ∈ f0 ++ [t], s.1 ≤ t.1 := fun s hs => by
  rcases List.mem_append.mp hs with h1 | h1
  · exact Int.le_of_lt ((List.pairwise_append.mp h).2.2 s h1 t (by simp))
  · rw [List.mem_singleton.mp h1]; exact Int.le_refl _
/-- the greatest exponents' term of a product -/
theorem conv_great {p : Int} {r s : Pol} {t u : Int × Int} (h : (r ++ [t]).Pairwise fun x y => x.1 < y.1) (h' : (s ++ [u]).Pairwise fun x y => x.1 < y.1) : conv (r ++ [t]) (cf (s ++ [u])) (t.1 + u.1) % p = t.2 * u.2 % p := by
  rw [conv_append]
  have h0 := conv_gone (p := p) (D := cf (s ++ [u])) (E := t.1 + u.1) r fun x hx => by
    have l1 := (List.pairwise_append.mp h).2.2 x hx t (by simp)
    rw [cf_none _ _ fun y hy => by have := asc_last h' y hy; omega]
    exact Int.zero_emod _
  rw [Int.add_emod, h0, Int.zero_add, Int.emod_emod]
  show (t.2 * cf (s ++ [u]) (t.1 + u.1 - t.1) + 0) % p = _
  rw [show t.1 + u.1 - t.1 = u.1 by omega, Int.add_zero, cf_mem h' u (by simp)]
theorem dv_ends {p : Int} (hp : p ∈ primes) {x d d' : Pol} (nx : Nf p x (cf x)) (nd : Nf p d (cf d)) (nd' : Nf p d' (cf d')) (hd : d ≠ []) (h : ∀ e, conv x (cf d') e % p = cf d e % p) {l l' : Int} {d1 d1' : Pol} (a : d = (0, l) :: d1) (a' : d' = (0, l') :: d1') {d0 d0' : Pol} {deg deg' c c' : Int} (b : d = d0 ++ [(deg, c)]) (b' : d' = d0' ++ [(deg', c')]) :
    ∃ x0 m k, x = x0 ++ [(m, k)] ∧ (∀ t ∈ x, 0 ≤ t.1) ∧ m + deg' ≤ deg := by
  have hx : x ≠ [] := fun z => by
    refine hd (nf_zero nd fun e => ?_)
    rw [← h e, z]
    exact Int.zero_emod _
  obtain ⟨x0, m, k, hx0⟩ := ne_snoc hx
  refine ⟨x0, m, k, hx0, fun s hs => ?_, ?_⟩
  · obtain ⟨t, xs, rfl⟩ := List.exists_cons_of_ne_nil hx
    have hle := asc_le nx.asc hs
    have h1 := h (t.1 + 0)
    rw [a'] at h1 nd'
    have e1 : conv (t :: xs) (cf ((0, l') :: d1')) (t.1 + 0) = t.2 * l' := conv_least nx.asc nd'.asc
    rw [e1, Int.add_zero] at h1
    have h3 := nx.rng t List.mem_cons_self
    have h4 := nd'.rng (0, l') List.mem_cons_self
    have h5 := prime_nz hp h3.1 h3.2 h4.1 h4.2
    by_cases z : cf d t.1 = 0
    · rw [z, Int.zero_emod] at h1
      exact absurd h1 h5
    · obtain ⟨y, hy, e⟩ := cf_ne z
      rw [a] at hy nd
      have := asc_le nd.asc hy
      have : (0 : Int) ≤ y.1 := this
      omega
  · subst hx0
    have h1 := h (m + deg')
    rw [b'] at h1 nd'
    have e1 : conv (x0 ++ [(m, k)]) (cf (d0' ++ [(deg', c')])) (m + deg') % p = k * c' % p := conv_great nx.asc nd'.asc
    rw [e1] at h1
    have h3 := nx.rng (m, k) (by simp)
    have h4 := nd'.rng (deg', c') (by simp)
    have h5 := prime_nz hp h3.1 h3.2 h4.1 h4.2
    by_cases z : cf d (m + deg') = 0
    · rw [z, Int.zero_emod] at h1
      exact absurd h1 h5
    · obtain ⟨y, hy, e⟩ := cf_ne z
      rw [b] at hy nd
      have := asc_last nd.asc y hy
      have : y.1 ≤ deg := this
      omega
theorem gd_uniq {p : Int} (hp : p ∈ primes) {d d' : Pol} (g : Gd p d) (g' : Gd p d') (h : Dv p d d') (h' : Dv p d' d) : d = d' := by
  have hpr := prime_rng p hp
  obtain ⟨x, nx, hx⟩ := h'
  obtain ⟨y, ny, hy⟩ := h
  rcases g.nz with z | ⟨⟨l, d1, a⟩, d0, deg, b⟩
  · subst z
    refine (nf_zero g'.nf fun e => ?_).symm
    rw [← hy e]
    have : conv y (cf []) e = 0 := (conv_congr (G' := fun _ => 0) (fun _ => rfl) y e).trans (conv_zero y e)
    rw [this]
    exact Int.zero_emod _
  rcases g'.nz with z | ⟨⟨l', d1', a'⟩, d0', deg', b'⟩
  · subst z
    refine nf_zero g.nf fun e => ?_
    rw [← hx e]
    have : conv x (cf []) e = 0 := (conv_congr (G' := fun _ => 0) (fun _ => rfl) x e).trans (conv_zero x e)
    rw [this]
    exact Int.zero_emod _
  have hd : d ≠ [] := fun z => by rw [z] at a; cases a
  have hd' : d' ≠ [] := fun z => by rw [z] at a'; cases a'
  obtain ⟨x0, m, k, ex, x1, x2⟩ := dv_ends hp nx g.nf g'.nf hd hx a a' b b'
  obtain ⟨y0, m', k', ey, y1, y2⟩ := dv_ends hp ny g'.nf g.nf hd' hy a' a b' b
  have m0 := x1 (m, k) (by rw [ex]; simp)
  have m0' := y1 (m', k') (by rw [ey]; simp)
  have m0 : 0 ≤ m := m0
  have m0' : 0 ≤ m' := m0'
  have hm : m = 0 := by omega
  have hx0 : x0 = [] := by
    cases x0 with
    | nil => rfl
    | cons t xs =>
      have h1 := x1 t (by rw [ex]; simp)
      have h2 := nx.asc
      rw [ex] at h2
      have h3 := (List.pairwise_append.mp h2).2.2 t List.mem_cons_self (m, k) (by simp)
      have h3 : t.1 < m := h3
      omega
  rw [hx0, hm] at ex
  have ex : x = [(0, k)] := ex
  have hk := nx.rng (0, k) (by rw [ex]; simp)
  have hdeg : deg = deg' := by omega
  have hk1 : k = 1 := by
    have h1 := hx deg
    rw [ex] at h1
    have e1 : conv [(0, k)] (cf d') deg = k * 1 := by
      show k * cf d' (deg - 0) + 0 = _
      have hn := g'.nf.asc
      rw [b'] at hn
      rw [Int.sub_zero, Int.add_zero, hdeg, b', cf_mem hn (deg', 1) (by simp)]
    have e2 : cf d deg = 1 := by
      have hn := g.nf.asc
      rw [b] at hn
      rw [b]
      exact cf_mem hn (deg, 1) (by simp)
    rw [e1, e2, Int.mul_one, Int.emod_eq_of_lt (by omega) hk.2, Int.emod_eq_of_lt (by decide) (by omega)] at h1
    exact h1
  refine g.nf.uniq g'.nf fun e => ?_
  rw [← hx e, ex, hk1, conv_one, Int.sub_zero]
/-- d is the greatest common divisor of f and g -/
structure IsG (p : Int) (f g d : Pol) : Prop where
  gd : Gd p d
  md : In p f g d
  l : In p d [] f
  r : In p d [] g
theorem IsG.uniq {p : Int} (hp : p ∈ primes) {f g f' g' d d' : Pol} (a : IsG p f g d) (b : IsG p f' g' d') (h1 : In p f g f') (h2 : In p f g g') (h3 : In p f' g' f) (h4 : In p f' g' g) : d = d' := by
  have hpr := prime_rng p hp
  exact gd_uniq hp a.gd b.gd ((a.l.trans a.r (h1.trans h2 b.md)).dv (by omega)) ((b.l.trans b.r (h3.trans h4 a.md)).dv (by omega))
/-! ### moved to begin at exponent 0 -/
def fz (f : Pol) : Pol := match f with | [] => [] | t :: _ => moved (-t.1) f
def From0 (f : Pol) : Prop := f = [] ∨ ∃ l f1, f = (0, l) :: f1
theorem fz_mv (f : Pol) : ∃ n, fz f = moved n f := by
  cases f with
  | nil => exact ⟨0, rfl⟩
  | cons t r => exact ⟨-t.1, rfl⟩
theorem fz_from (f : Pol) : From0 (fz f) := by
  cases f with
  | nil => exact .inl rfl
  | cons t r =>
    refine .inr ⟨t.2, moved (-t.1) r, ?_⟩
    show (t.1 + -t.1, t.2) :: _ = _
    rw [Int.add_right_neg]
    rfl
theorem fz_nf {p : Int} {f : Pol} (h : Nf p f (cf f)) : Nf p (fz f) (cf (fz f)) := by
  obtain ⟨n, e⟩ := fz_mv f
  rw [e]
  exact h.mv n
theorem fz_len (f : Pol) : (fz f).length = f.length := by
  obtain ⟨n, e⟩ := fz_mv f
  rw [e]
  exact List.length_map _
theorem fz_wid {f : Pol} {N : Nat} (h : ∀ t ∈ f, ∀ s ∈ f, t.1 - s.1 < N) : ∀ t ∈ fz f, t.1 < N := by
  cases f with
  | nil => exact fun t ht => absurd ht List.not_mem_nil
  | cons u r =>
    intro t ht
    obtain ⟨z, hz, rfl⟩ := List.mem_map.mp ht
    have := h z hz u List.mem_cons_self
    show z.1 + -u.1 < N
    omega
theorem fz_in {p : Int} {f g u : Pol} (h : In p f g u) : In p f g (fz u) := by
  obtain ⟨n, e⟩ := fz_mv u
  rw [e]
  exact h.mv n
theorem fz_back {p : Int} {f g u : Pol} (h : In p f g (fz u)) : In p f g u := by
  obtain ⟨n, e⟩ := fz_mv u
  rw [e] at h
  have := h.mv (-n)
  rw [moved_back, Int.add_right_neg, moved_zero] at this
  exact this
theorem From0.ge {p : Int} {f : Pol} {F : Int → Int} (h : From0 f) (n : Nf p f F) : ∀ t ∈ f, 0 ≤ t.1 := by
  rcases h with z | ⟨l, f1, z⟩
  · rw [z]; exact fun t ht => absurd ht List.not_mem_nil
  · intro t ht
    have ha := n.asc
    rw [z] at ha ht
    exact asc_le ha ht
theorem nf_len {p : Int} {f : Pol} {F : Int → Int} {N : Nat} (n : Nf p f F) (h0 : ∀ t ∈ f, 0 ≤ t.1) (h9 : ∀ t ∈ f, t.1 < N) : f.length ≤ N := by
  have := n.self.len (L := (List.range N).map fun i : Nat => (i : Int)) fun e he => by
    rw [cf_none f e fun t ht z => he (List.mem_map.mpr ⟨e.toNat, List.mem_range.mpr ?_, ?_⟩)]
    · exact Int.zero_emod _
    · have := h0 t ht
      have := h9 t ht
      omega
    · have := h0 t ht
      show (e.toNat : Int) = e
      omega
  rw [List.length_map, List.length_range] at this
  exact this
theorem nf_first {p : Int} {d : Pol} {F : Int → Int} (n : Nf p d F) (h0 : ∀ t ∈ d, 0 ≤ t.1) (h : cf d 0 ≠ 0) : ∃ l d1, d = (0, l) :: d1 := by
  obtain ⟨t, ht, e⟩ := cf_ne h
  cases d with
  | nil => exact absurd ht List.not_mem_nil
  | cons u r =>
    have h1 := asc_le n.asc ht
    have h2 := h0 u List.mem_cons_self
    refine ⟨u.2, r, ?_⟩
    have : u.1 = 0 := by omega
    rw [← this]
theorem nf_lastc {p : Int} {d : Pol} {F : Int → Int} {deg : Int} (n : Nf p d F) (h9 : ∀ t ∈ d, t.1 ≤ deg) (h : cf d deg ≠ 0) : ∃ d0, d = d0 ++ [(deg, cf d deg)] := by
  obtain ⟨t, ht, e⟩ := cf_ne h
  have hd : d ≠ [] := fun z => by rw [z] at ht; cases ht
  obtain ⟨d0, m, c, rfl⟩ := ne_snoc hd
  have h1 := asc_last n.asc t ht
  have h1 : t.1 ≤ m := h1
  have h2 := h9 (m, c) (by simp)
  have h2 : m ≤ deg := h2
  have hm : m = deg := by omega
  subst hm
  exact ⟨d0, by rw [cf_mem n.asc (m, c) (by simp)]⟩
theorem gd_scale {p : Int} (hp : p ∈ primes) {u0 : Pol} {deg lead c : Int} {d : Pol} (nu : Nf p (u0 ++ [(deg, lead)]) (cf (u0 ++ [(deg, lead)]))) (hf : From0 (u0 ++ [(deg, lead)])) (hc0 : 0 < c) (hc9 : c < p) (hc : c * lead % p = 1) (nd : Nf p d (fun e => cf (u0 ++ [(deg, lead)]) e * c)) :
    Gd p d ∧ (∀ t ∈ d, ∃ s ∈ u0 ++ [(deg, lead)], s.1 = t.1) ∧ ∀ e, cf (u0 ++ [(deg, lead)]) e % p = cf d e * lead % p := by
  have hpr := prime_rng p hp
  have hsub : ∀ t ∈ d, ∃ s ∈ u0 ++ [(deg, lead)], s.1 = t.1 := nd.subP (R := fun x => ∃ s ∈ u0 ++ [(deg, lead)], s.1 = x) fun e he => by
    rw [cf_none _ e fun t ht z => he ⟨t, ht, z⟩, Int.zero_mul]
    exact Int.zero_emod _
  refine ⟨⟨nd.self, .inr ⟨?_, ?_⟩⟩, hsub, fun e => ?_⟩
  · have h0 := hf.ge nu
    refine nf_first nd (fun t ht => ?_) ?_
    · obtain ⟨s, hs, e⟩ := hsub t ht
      rw [← e]
      exact h0 s hs
    · rcases hf with z | ⟨l, f1, z⟩
      · cases u0 <;> cases z
      · rw [nd.cof]
        show cf (u0 ++ [(deg, lead)]) 0 * c % p ≠ 0
        have ha := nu.asc
        have hl := nu.rng (0, l) (by rw [z]; simp)
        rw [z] at ha ⊢
        rw [cf_mem ha (0, l) List.mem_cons_self]
        exact prime_nz hp hl.1 hl.2 hc0 hc9
  · have e1 : cf d deg = 1 := by
      rw [nd.cof]
      show cf (u0 ++ [(deg, lead)]) deg * c % p = 1
      rw [cf_mem nu.asc (deg, lead) (by simp), Int.mul_comm]
      exact hc
    obtain ⟨d0, hd⟩ := nf_lastc nd (deg := deg) (fun t ht => by
      obtain ⟨s, hs, e⟩ := hsub t ht
      rw [← e]
      exact asc_last nu.asc s hs) (by rw [e1]; decide)
    rw [e1] at hd
    exact ⟨d0, deg, hd⟩
  · rw [nd.cof, mul_emod_l, Int.mul_assoc, Int.mul_emod, hc]
    have : (1 : Int) % p = 1 := Int.emod_eq_of_lt (by decide) (by omega)
    rw [← this, ← Int.mul_emod, Int.mul_one]
/-- one step of Euclid's way -/
theorem gcd_step {p : Int} {f g u v q r : Pol} (h1 : In p f g u) (h2 : In p f g v) (h3 : In p u v f) (h4 : In p u v g) (h : ∀ e, (cf r e + cf (prods q v) e - cf u e) % p = 0) : In p f g r ∧ In p v r f ∧ In p v r g := by
  have hqv : ∀ e, cf (prods q v) e % p = conv q (cf v) e % p := fun e => by rw [cf_prods]
  have hr : In p f g r := In.sub h1 (h2.mul q hqv) fun e => eq_of_sub (Eq.trans (congrArg (· % p) (by omega)) (h e))
  have hu : In p v r u := In.add (In.r (f := v) (g := r)) (In.l.mul q hqv) fun e => (eq_of_sub (h e)).symm
  exact ⟨hr, hu.trans In.l h3, hu.trans In.l h4⟩
def sp_greatest_divisor (K : PySem.W.Frag) : Sp := fun vs H Q _ => ∃ (p : Int) (v1 v2 : V) (f g : Pol) (N : Nat), vs = [.int p, v1, v2] ∧ p ∈ primes ∧ TPol K H v1 f ∧ TPol K H v2 g ∧ Nf p f (cf f) ∧ Nf p g (cf g) ∧ (∀ t ∈ f, ∀ s ∈ f, t.1 - s.1 < N) ∧ (∀ t ∈ g, ∀ s ∈ g, t.1 - s.1 < N) ∧ N ≤ 900 ∧ f.length ≤ 1000000 ∧ g.length ≤ 1000000 ∧
  ∀ u H' d, Same H H' → TPol K H' u d → IsG p f g d → (∀ t ∈ d, 0 ≤ t.1 ∧ t.1 < N) → Q u H'
end DR
namespace DR
open PySem PySem.Spec PyProof.Rows L2
theorem ix_tupQ {X : Cx} (K : PySem.W.Frag) (h : X.K = K) : IxR X (rIxT K) := h ▸ ix_tup
/-- [k for k in range(lo, hi) if ..] -/
theorem lcFilR {σ : L2.St} {H : Hp} {vs : List Nat} {i : Nat} {ta : TA} {tt : TT} {te : TE} {Q : VK} (b : Int → Bool) (lo hi : Int) (hn : (hi - lo).toNat ≤ 100000) (hlo : lo.natAbs ≤ 100000) (hhi : hi.natAbs ≤ 100000) (ha : ∀ R : List V → Hp → Prop, R [.int lo, .int hi] H → ta σ H R)
    (hw : ∀ x, wipe ((wipe σ vs).set i (some x)) vs = wipe σ vs)
    (ht : ∀ x : Int, lo ≤ x → x < hi → ∀ H2, Same H H2 → ∀ S : Bool → Hp → Prop, S (b x) H2 → tt ((wipe σ vs).set i (some (.int x))) H2 S)
    (he : ∀ x H2 (S : VK), S (.int x) H2 → te ((wipe σ vs).set i (some (.int x))) H2 S)
    (k : ∀ D H2, H D = none → Same H H2 → H2 D = some (.lst (((((List.range (hi - lo).toNat).map fun j : Nat => lo + (j : Int)).filter b)).map V.int)) → Q (.ref D) H2) : tLc (iRng2 ta) (gName i) tt te vs σ H Q := by
  refine ha _ ⟨lo, hi, rfl, ⟨by omega, by omega, by omega, by omega⟩, fun D nD => ?_⟩
  refine lc_range (lo := lo) (n := (hi - lo).toNat) (fun m H2 => H2 D = some (.lst (((((List.range m).map fun j : Nat => lo + (j : Int)).filter b)).map V.int)) ∧ Same H H2) ⟨upd_same, same_new nD⟩ ?_ ?_
  · rintro m H2 hm ⟨hD, s2⟩
    refine ⟨hw _, ?_⟩
    refine ht _ (by omega) (by omega) _ s2 _ ?_
    have et : ((List.range (m + 1)).map fun j : Nat => lo + (j : Int)).filter b = ((List.range m).map fun j : Nat => lo + (j : Int)).filter b ++ [lo + (m : Int)].filter b := by rw [List.range_succ, List.map_append, List.filter_append]; rfl
    cases hp : b (lo + (m : Int)) with
    | true =>
      rw [if_pos rfl]
      refine he _ _ _ ?_
      have hlen := List.length_filter_le b ((List.range m).map fun j : Nat => lo + (j : Int))
      rw [List.length_map, List.length_range] at hlen
      refine ⟨_, hD, sl_lt (by rw [List.length_map]; omega), ?_, fun x o ex => ?_⟩
      · rw [upd_same, et, List.filter_cons_of_pos hp, List.map_append]
        rfl
      · rw [upd_ne (ne_of_none ex nD)]
        exact s2 _ _ ex
    | false =>
      rw [if_neg (by decide)]
      refine ⟨?_, s2⟩
      rw [hD, et, List.filter_cons_of_neg (by rw [hp]; decide), List.filter_nil, List.append_nil]
  · rintro H2 ⟨hD, s2⟩
    exact k D H2 nD s2 hD
end DR
namespace DR
open PySem PySem.Spec PyProof.Rows L2
/-- the inverse found by a comprehension -/
theorem inv_first {p : Int} (hp : p ∈ primes) {a : Int} (h0 : 0 < a) (h9 : a < p) : ∃ u, (((List.range (p - 1).toNat).map fun j : Nat => (1 : Int) + (j : Int)).filter fun x => decide (V.int (x * a % p) = V.int 1)).head? = some u ∧ 0 < u ∧ u < p ∧ u * a % p = 1 := by
  have hpr := prime_rng p hp
  obtain ⟨w, hw, hw0, hwa⟩ := inv_there p hp a.toNat (List.mem_range.mpr (by omega)) (by omega)
  rw [Int.toNat_of_nonneg (by omega)] at hwa
  have hw9 := List.mem_range.mp hw
  have hmem : (w : Int) ∈ ((List.range (p - 1).toNat).map fun j : Nat => (1 : Int) + (j : Int)).filter fun x => decide (V.int (x * a % p) = V.int 1) := by
    refine List.mem_filter.mpr ⟨List.mem_map.mpr ⟨w - 1, List.mem_range.mpr (by omega), by omega⟩, decide_eq_true (by rw [hwa])⟩
  cases hL : ((List.range (p - 1).toNat).map fun j : Nat => (1 : Int) + (j : Int)).filter fun x => decide (V.int (x * a % p) = V.int 1) with
  | nil => rw [hL] at hmem; cases hmem
  | cons u r =>
    have hu : u ∈ ((List.range (p - 1).toNat).map fun j : Nat => (1 : Int) + (j : Int)).filter fun x => decide (V.int (x * a % p) = V.int 1) := by rw [hL]; exact List.mem_cons_self
    obtain ⟨h1, h2⟩ := List.mem_filter.mp hu
    obtain ⟨j, hj, rfl⟩ := List.mem_map.mp h1
    have hj := List.mem_range.mp hj
    have h3 := of_decide_eq_true h2
    exact ⟨_, rfl, by omega, by omega, by injection h3⟩
/-- within long division as the laws do it -/
structure LdI (p lf wg : Int) (f g R Q : Pol) (m N : Nat) : Prop where
  nf : Nf p R (cf R)
  lo : ∀ t ∈ R, lf ≤ t.1
  hi : ∀ t ∈ R, t.1 < lf + wg + m
  to : ∀ t ∈ R, t.1 < lf + N
  eq : ∀ e, (cf R e + cf (prods Q g) e - cf f e) % p = 0
theorem LdI.next {p lf lg dg lead l0 : Int} (hp : p ∈ primes) {f g g0 g1 R0 R Q T S R' : Pol} {m N : Nat} {top rt c un : Int} (hR : R = R0 ++ [(top, rt)]) (h : LdI p lf (dg - lg) f g R Q m N) (ng : Nf p g (cf g)) (hg : g = g0 ++ [(dg, lead)]) (hg1 : g = (lg, l0) :: g1) (ht : lf + (dg - lg) ≤ top) (hu : un * lead % p = 1) (hc : c = rt * un % p)
    (nT : Nf p T (cf (prods [(top - dg, c)] g))) (nS : Nf p S (fun e => cf T e * -1)) (nR : Nf p R' (fun e => cf R e + cf S e)) : LdI p lf (dg - lg) f g R' (Q ++ [(top - dg, c)]) (top - lf - (dg - lg)).toNat N := by
  have hpr := prime_rng p hp
  have htop : (top, rt) ∈ R := by rw [hR]; simp
  have key : ∀ e, cf R' e % p = (cf R e - c * cf g (e - (top - dg))) % p := fun e => by
    rw [nR.cof, Int.emod_emod]
    refine eq_of_sub ?_
    have e1 : cf T e % p = c * cf g (e - (top - dg)) % p := by
      rw [nT.cof, Int.emod_emod, cf_prods]
      show (c * cf g (e - (top - dg)) + 0) % p = _
      rw [Int.add_zero]
    have e2 : (cf S e + cf T e) % p = 0 := by
      rw [nS.cof, add_emod_l, show cf T e * -1 + cf T e = 0 by omega]
      exact Int.zero_emod _
    refine Eq.trans (congrArg (· % p) ?_) (z_sub e2 (sub_of_eq e1))
    omega
  have asc := h.nf.asc
  have gl : ∀ t ∈ g, lg ≤ t.1 ∧ t.1 ≤ dg := fun t ht => by
    have a1 := ng.asc
    have a2 := ng.asc
    rw [hg1] at a1
    rw [hg] at a2
    exact ⟨asc_le a1 (by rw [← hg1]; exact ht), asc_last a2 t (by rw [← hg]; exact ht)⟩
  have rl : ∀ t ∈ R, t.1 ≤ top := fun t ht => by
    rw [hR] at asc ht
    exact asc_last asc t ht
  have sup : ∀ t ∈ R', lf ≤ t.1 ∧ t.1 < top := nR.self.subP (R := fun x => lf ≤ x ∧ x < top) fun e he => by
    rw [key]
    by_cases z : e = top
    · have e1 : cf R top = rt := cf_mem asc (top, rt) htop
      have e2 : cf g (top - (top - dg)) = lead := by
        rw [show top - (top - dg) = dg by omega]
        exact cf_mem ng.asc (dg, lead) (by rw [hg]; simp)
      rw [z, e1, e2, hc, Int.sub_emod, mul_emod_l, Int.mul_assoc, Int.mul_emod, hu]
      have : (1 : Int) % p = 1 := Int.emod_eq_of_lt (by decide) (by omega)
      rw [← this, ← Int.mul_emod, Int.mul_one, Int.sub_self, Int.zero_emod]
    · have e1 : cf R e = 0 := cf_none _ _ fun t ht q => by
        have := h.lo t ht
        have := rl t ht
        omega
      have e2 : cf g (e - (top - dg)) = 0 := cf_none _ _ fun t ht q => by
        have := gl t ht
        omega
      rw [e1, e2, Int.mul_zero]
      exact Int.zero_emod _
  have htl := h.lo _ htop
  have htl : lf ≤ top := htl
  have htt := h.to _ htop
  have htt : top < lf + N := htt
  refine ⟨nR.self, fun t ht => (sup t ht).1, fun t ht => ?_, fun t ht => ?_, fun e => ?_⟩
  · have := (sup t ht).2
    omega
  · have := (sup t ht).2
    omega
  · rw [prods_snoc, cf_append, cf_times]
    have a1 := h.eq e
    have a2 := sub_of_eq (key e)
    refine Eq.trans (congrArg (· % p) ?_) (z_add a1 a2)
    show _ + (_ + c * cf g (e - (top - dg))) - _ = _
    omega
theorem lo_len {p lf : Int} {R : Pol} {N : Nat} (n : Nf p R (cf R)) (lo : ∀ t ∈ R, lf ≤ t.1) (to : ∀ t ∈ R, t.1 < lf + N) : R.length ≤ N := by
  have h := nf_len (n.mv (-lf)) (N := N) (fun t ht => by
    obtain ⟨z, hz, rfl⟩ := List.mem_map.mp ht
    have := lo z hz
    show 0 ≤ z.1 + -lf
    omega) (fun t ht => by
    obtain ⟨z, hz, rfl⟩ := List.mem_map.mp ht
    have := to z hz
    show z.1 + -lf < N
    omega)
  rw [show (moved (-lf) R).length = R.length from List.length_map _] at h
  exact h
theorem wid_len {p : Int} {R : Pol} {N : Nat} (n : Nf p R (cf R)) (w : ∀ t ∈ R, ∀ s ∈ R, t.1 - s.1 < N) : R.length ≤ N := by
  cases R with
  | nil => exact Nat.zero_le _
  | cons u r => exact lo_len (lf := u.1) n (fun t ht => asc_le n.asc ht) fun t ht => by have := w t ht u List.mem_cons_self; omega
def sp__law_divided (K : PySem.W.Frag) : Sp := fun vs H Q _ => ∃ (p : Int) (v1 v2 : V) (f g g0 g1 : Pol) (dg lead lg l0 : Int) (N : Nat), vs = [.int p, v1, v2] ∧ p ∈ primes ∧ TPol K H v1 f ∧ TPol K H v2 g ∧ Nf p f (cf f) ∧ Nf p g (cf g) ∧ g = g0 ++ [(dg, lead)] ∧ g = (lg, l0) :: g1 ∧ (∀ t ∈ f, ∀ s ∈ f, t.1 - s.1 < N) ∧ (∀ t ∈ g, ∀ s ∈ g, t.1 - s.1 < N) ∧ N ≤ 900 ∧
  ∀ (a : Addr) (x y : V) (H' : Hp) (q r : Pol), Same H H' → SqT K H' a [x, y] → TPol K H' y r → Nf p r (cf r) → (∀ e, (cf r e + cf (prods q g) e - cf f e) % p = 0) → (∀ t ∈ r, ∀ s ∈ r, t.1 - s.1 < dg - lg) → Q (.ref a) H'
def sp__law_common7 (K : PySem.W.Frag) : Sp := fun vs H Q _ => ∃ (p : Int) (v1 v2 : V) (f g : Pol) (N : Nat), vs = [.int p, v1, v2] ∧ p ∈ primes ∧ TPol K H v1 f ∧ TPol K H v2 g ∧ Nf p f (cf f) ∧ Nf p g (cf g) ∧ (∀ t ∈ f, ∀ s ∈ f, t.1 - s.1 < N) ∧ (∀ t ∈ g, ∀ s ∈ g, t.1 - s.1 < N) ∧ N ≤ 900 ∧
  ∀ u H' d, Same H H' → TPol K H' u d → IsG p f g d → (∀ t ∈ d, 0 ≤ t.1 ∧ t.1 < N) → Q u H'
end DR
namespace DR
open PySem PySem.Spec PyProof.Rows L2
/-- a pair of polynomials -/
def PrV (K : PySem.W.Frag) (H : Hp) (v : V) (f g : Pol) : Prop := ∃ a x y, v = .ref a ∧ SqT K H a [x, y] ∧ TPol K H x f ∧ TPol K H y g
theorem PrV.tp {K : PySem.W.Frag} {H H' : Hp} {v : V} {f g : Pol} (e : Tp H H') (h : PrV K H v f g) : PrV K H' v f g := by
  obtain ⟨a, x, y, rfl, h1, h2, h3⟩ := h
  exact ⟨a, x, y, rfl, tp_t e h1, h2.tp e, h3.tp e⟩
theorem PrV.new {K : PySem.W.Frag} {H : Hp} {x y : V} {t : Addr} {f g : Pol} (n : H t = none) (h1 : TPol K H x f) (h2 : TPol K H y g) : PrV K (upd H t (.tup [x, y])) (.ref t) f g := ⟨t, x, y, rfl, SqT.of upd_same, h1.tp (tp_new n), h2.tp (tp_new n)⟩
structure PrF (q : Int) (f g : Pol) : Prop where
  nf : Nf q f (cf f)
  ng : Nf q g (cf g)
  bf : ∀ t ∈ f, t.1.natAbs ≤ 120
  bg : ∀ t ∈ g, t.1.natAbs ≤ 120
theorem wid_mv {f : Pol} {N : Nat} (n : Int) (h : ∀ t ∈ f, ∀ s ∈ f, t.1 - s.1 < (N : Int)) : ∀ t ∈ moved n f, ∀ s ∈ moved n f, t.1 - s.1 < (N : Int) := fun t ht s hs => by
  obtain ⟨a, ha, rfl⟩ := List.mem_map.mp ht
  obtain ⟨b, hb, rfl⟩ := List.mem_map.mp hs
  have := h a ha b hb
  show a.1 + n - (b.1 + n) < (N : Int)
  omega
theorem in_mv_back {p : Int} {f g u : Pol} (n : Int) (h : In p f g (moved n u)) : In p f g u := by
  have := h.mv (-n)
  rw [moved_back, Int.add_right_neg, moved_zero] at this
  exact this
theorem gd_sm {p : Int} {d : Pol} {N : Nat} (hp : p ≤ 97) (h : Gd p d) (hN : N ≤ 900) (b : ∀ t ∈ d, 0 ≤ t.1 ∧ t.1 < N) : Sm d := by
  refine ⟨Nat.le_trans (nf_len h.nf (fun t ht => (b t ht).1) (fun t ht => (b t ht).2)) (by omega), fun t ht => ?_⟩
  have h1 := b t ht
  have h2 := h.nf.rng t ht
  have h3 : 900 < 10 ^ 100 := by decide +kernel
  constructor <;> omega
end DR
namespace DR
open PySem PySem.Spec PyProof.Rows L2
theorem conv_shift (n : Int) (G : Int → Int) : ∀ (f : Pol) (e : Int), conv f (fun x => G (x - n)) e = conv f G (e - n)
  | [], e => rfl
  | t :: r, e => by
    show t.2 * G (e - t.1 - n) + conv r _ e = t.2 * G (e - n - t.1) + conv r G (e - n)
    rw [conv_shift n G r e, show e - t.1 - n = e - n - t.1 by omega]
theorem conv_swap (f : Pol) (G : Int → Int) : ∀ (x : Pol) (e : Int), conv x (conv f G) e = conv f (conv x G) e
  | [], e => (conv_zero f e).symm
  | t :: r, e => by
    show t.2 * conv f G (e - t.1) + conv r (conv f G) e = conv f (fun y => t.2 * G (y - t.1) + conv r G y) e
    rw [conv_add (fun y => t.2 * G (y - t.1)) (conv r G), conv_smul t.2 (fun y => G (y - t.1)), conv_shift, conv_swap f G r e]
section
variable {p : Int}
/-- all multiplied by one -/
theorem In.tms {f a b u L R D : Pol} (h : In p a b u) (hl : ∀ e, cf L e % p = conv f (cf a) e % p) (hr : ∀ e, cf R e % p = conv f (cf b) e % p) (hd : ∀ e, cf D e % p = conv f (cf u) e % p) : In p L R D := by
  obtain ⟨x, y, h⟩ := h
  refine ⟨x, y, fun e => ?_⟩
  rw [hd e, ← conv_mod h f e, conv_add, Int.add_emod, conv_mod hl x e, conv_mod hr y e, ← Int.add_emod, conv_swap f (cf a) x, conv_swap f (cf b) y]
theorem conv_none (f : Pol) (e : Int) : conv f (cf []) e = 0 := (conv_congr (G' := fun _ => 0) (fun _ => rfl) f e).trans (conv_zero f e)
theorem IsG.mono (hp : 2 ≤ p) (e : Int) (g : Pol) : IsG p [(e, 1)] g [(0, 1)] := by
  have all : ∀ u, In p [(0, 1)] [] u := fun u => ⟨u, [], fun x => by
    rw [conv_comm, conv_one, Int.sub_zero, conv_nil, Int.add_zero]⟩
  refine ⟨⟨nf_one (by decide) (by omega), .inr ⟨⟨1, [], rfl⟩, [], 0, rfl⟩⟩, ?_, all _, all _⟩
  have := (In.l (p := p) (f := [(e, 1)]) (g := g)).mv (-e)
  have e1 : moved (-e) [(e, 1)] = [(0, 1)] := by
    show [(e + -e, 1)] = _
    rw [Int.add_right_neg]
  rw [e1] at this
  exact this
/-! ### 1 - t ** k -/
def GapP (p : Int) (g : Pol) (k : Int) : Prop := Nf p g (fun e => cf [(0, 1)] e - cf [(k, 1)] e)
theorem gap_ex (hp : 0 < p) (k : Int) : ∃ g, GapP p g k := by
  obtain ⟨g, h⟩ := nf_ex hp [(0, 1), (k, -1)]
  refine ⟨g, h.to fun e => ?_⟩
  congr 1
  show (if 0 = e then 1 else 0) + ((if k = e then -1 else 0) + 0) = (if 0 = e then 1 else 0) + 0 - ((if k = e then 1 else 0) + 0)
  split <;> split <;> omega
def GapIn (p : Int) (f g : Pol) (k : Int) : Prop := ∀ u, GapP p u k → In p f g u
theorem cf_one1 (k e : Int) : cf [(k, 1)] e = if k = e then 1 else 0 := by
  show (if k = e then 1 else 0) + 0 = _
  rw [Int.add_zero]
theorem GapIn.sub (hp : 0 < p) {f g : Pol} {a b : Int} (h : GapIn p f g a) (h2 : GapIn p f g b) : GapIn p f g (a - b) := fun u hu => by
  obtain ⟨ua, ha⟩ := gap_ex hp a
  obtain ⟨ub, hb⟩ := gap_ex hp b
  obtain ⟨w, hw⟩ := nf_ex hp (ua ++ ub.map fun t => (t.1, t.2 * -1))
  have hw2 : ∀ e, cf w e % p = (cf ua e - cf ub e) % p := fun e => by
    rw [hw.cof, Int.emod_emod, cf_append, cf_scale]
    congr 1
    omega
  have iw : In p f g w := (h ua ha).sub (h2 ub hb) hw2
  refine (iw.mv (-b)).to fun e => ?_
  rw [cf_moved, hw2, ha.cof, hb.cof, hu.cof, Int.emod_emod, ← Int.sub_emod]
  congr 1
  rw [show e - -b = e + b by omega, cf_one1, cf_one1, cf_one1, cf_one1, cf_one1]
  by_cases h1 : a = e + b
  · rw [if_pos h1, if_pos (by omega : a - b = e)]
    by_cases h3 : b = e + b
    · rw [if_pos h3, if_pos (by omega : (0 : Int) = e)]
      omega
    · rw [if_neg h3, if_neg (by omega : ¬ (0 : Int) = e)]
      omega
  · rw [if_neg h1, if_neg (by omega : ¬ a - b = e)]
    by_cases h3 : b = e + b
    · rw [if_pos h3, if_pos (by omega : (0 : Int) = e)]
      omega
    · rw [if_neg h3, if_neg (by omega : ¬ (0 : Int) = e)]
      omega
theorem sub_gcd {S : Int → Prop} (hs : ∀ a b, S a → S b → S (a - b)) (w n : Nat) : S (w : Int) → S (n : Int) → S ((Nat.gcd w n : Nat) : Int) := by
  refine Nat.gcd.induction (P := fun w n => S (w : Int) → S (n : Int) → S ((Nat.gcd w n : Nat) : Int)) w n (fun n _ h => by rw [Nat.gcd_zero_left]; exact h) fun m n hm ih h1 h2 => ?_
  rw [Nat.gcd_rec]
  refine ih ?_ h1
  have key : ∀ k : Nat, k * m ≤ n → S ((n : Int) - ((k * m : Nat) : Int)) := by
    intro k
    induction k with
    | zero => intro _; rw [Nat.zero_mul, Int.natCast_zero, Int.sub_zero]; exact h2
    | succ k ih =>
      intro hk
      rw [Nat.succ_mul] at hk ⊢
      have := hs _ _ (ih (by omega)) h1
      rw [show ((k * m + m : Nat) : Int) = ((k * m : Nat) : Int) + (m : Int) from Int.natCast_add _ _, ← Int.sub_sub]
      exact this
  have h3 := key (n / m) (Nat.div_mul_le_self n m)
  have h4 := Nat.mod_add_div n m
  rw [Nat.mul_comm] at h4
  rw [show (n : Int) - ((n / m * m : Nat) : Int) = ((n % m : Nat) : Int) by omega] at h3
  exact h3
/-- the shorter divides the longer -/
theorem gap_dv (hp : 0 < p) {u v : Pol} {k c : Int} (hc : 0 ≤ c) (hu : GapP p u k) (hv : GapP p v (c * k)) {g : Pol} : In p u g v := by
  obtain ⟨geo, ng⟩ := nf_ex hp (rounds c.toNat k)
  refine (In.l.mul geo (r := v) fun e => ?_)
  have h1 := geo_close hu ng hc e
  rw [cf_prods, conv_comm] at h1
  rw [h1, hv.cof, Int.emod_emod]
end
theorem gcd_last : ∀ w ∈ List.range 31, ∀ n ∈ List.range 31, 0 < w → 0 < n → (((List.range n).map fun j : Nat => (1 : Int) + (j : Int)).filter fun x => decide ((w : Int) % x = 0) && decide ((n : Int) % x = 0)).getLast? = some ((Nat.gcd w n : Nat) : Int) := by decide +kernel
def sp__law_gap (K : PySem.W.Frag) : Sp := fun vs H Q _ => ∃ (p k : Int), vs = [.int p, .int k] ∧ 0 < p ∧ ∀ u H' g, Same H H' → TPol K H' u g → GapP p g k → Q u H'
theorem IsG.gaps {p : Int} (hp : p ∈ primes) {W N G d d' : Pol} {w n : Nat} (hw : 0 < w) (hn : 0 < n) (gW : GapP p W (w : Int)) (gN : GapP p N (n : Int)) (gG : GapP p G ((Nat.gcd w n : Nat) : Int)) (h : IsG p W N d) (h' : IsG p G [] d') : d = d' := by
  have hpr := prime_rng p hp
  have hp0 : 0 < p := by omega
  have same : ∀ {u v : Pol} {k : Int}, GapP p u k → GapP p v k → u = v := fun a b => a.uniq b fun _ => rfl
  refine h.uniq hp h' ?_ In.z ?_ ?_
  · exact sub_gcd (S := GapIn p W N) (fun a b h1 h2 => h1.sub hp0 h2) w n (fun u hu => by rw [same hu gW]; exact In.l) (fun u hu => by rw [same hu gN]; exact In.r) G gG
  · obtain ⟨c, hc⟩ := Nat.gcd_dvd_left w n
    refine gap_dv hp0 (c := (c : Int)) (by omega) gG ?_
    rw [show (c : Int) * ((Nat.gcd w n : Nat) : Int) = ((w : Nat) : Int) by rw [← Int.natCast_mul, Nat.mul_comm, ← hc]]
    exact gW
  · obtain ⟨c, hc⟩ := Nat.gcd_dvd_right w n
    refine gap_dv hp0 (c := (c : Int)) (by omega) gG ?_
    rw [show (c : Int) * ((Nat.gcd w n : Nat) : Int) = ((n : Nat) : Int) by rw [← Int.natCast_mul, Nat.mul_comm, ← hc]]
    exact gN
theorem IsG.times {p : Int} (hp : p ∈ primes) {f a b L R e D d d' : Pol} (hl : ∀ x, cf L x % p = conv f (cf a) x % p) (hr : ∀ x, cf R x % p = conv f (cf b) x % p) (hD : ∀ x, cf D x % p = conv f (cf e) x % p) (ge : IsG p a b e) (h : IsG p L R d) (h' : IsG p D [] d') : d = d' := by
  have z : ∀ x, cf ([] : Pol) x % p = conv f (cf []) x % p := fun x => by rw [conv_none]; rfl
  exact h.uniq hp h' (ge.md.tms hl hr hD) In.z (ge.l.tms hD z hl) (ge.r.tms hD z hr)
theorem IsG.assoc {p : Int} (hp : p ∈ primes) {a b c g12 g23 d d' : Pol} (h1 : IsG p a b g12) (h2 : IsG p b c g23) (h : IsG p g12 c d) (h' : IsG p a g23 d') : d = d' :=
  h.uniq hp h' h1.l.one (In.trans h1.r.one In.r h2.md) (In.trans In.l (h2.l.one (g := a)).swap h1.md) (h2.r.one (g := a)).swap
end DR
namespace DR
open PySem PySem.Spec PyProof.Rows L2
/-! ### sums over the terms, class sums -/
def ws (φ : Int → Int) : Pol → Int
  | [] => 0
  | t :: r => t.2 * φ t.1 + ws φ r
theorem ws_append (φ : Int → Int) : ∀ f g : Pol, ws φ (f ++ g) = ws φ f + ws φ g
  | [], g => by
    show ws φ g = 0 + ws φ g
    omega
  | t :: r, g => by
    show t.2 * φ t.1 + ws φ (r ++ g) = t.2 * φ t.1 + ws φ r + ws φ g
    rw [ws_append φ r g]
    omega
theorem ws_split (φ : Int → Int) (x : Int) : ∀ h : Pol, ws φ h = cf h x * φ x + ws φ (drp h x)
  | [] => by
    show (0 : Int) = 0 * φ x + 0
    rw [Int.zero_mul]
    rfl
  | t :: r => by
    have ih := ws_split φ x r
    by_cases q : t.1 = x
    · have e1 : drp (t :: r) x = drp r x := by
        unfold drp
        rw [List.filter_cons_of_neg (by simp [q])]
      rw [e1, cf_cons, if_pos q, Int.add_mul]
      show t.2 * φ t.1 + ws φ r = _
      rw [q]
      omega
    · have e1 : drp (t :: r) x = t :: drp r x := by
        unfold drp
        rw [List.filter_cons_of_pos (by simp [q])]
      rw [e1, cf_cons, if_neg q, Int.zero_add]
      show t.2 * φ t.1 + ws φ r = cf r x * φ x + (t.2 * φ t.1 + ws φ (drp r x))
      omega
theorem ws_zero {p : Int} (φ : Int → Int) : ∀ (n : Nat) (h : Pol), h.length ≤ n → (∀ x, cf h x % p = 0) → ws φ h % p = 0
  | _, [], _, _ => Int.zero_emod _
  | 0, t :: r, hl, _ => by simp at hl
  | n + 1, t :: r, hl, hz => by
    rw [ws_split φ t.1]
    refine z_add ?_ (ws_zero φ n _ ?_ fun x => ?_)
    · rw [Int.mul_emod, hz, Int.zero_mul, Int.zero_emod]
    · have e1 : drp (t :: r) t.1 = drp r t.1 := by
        unfold drp
        rw [List.filter_cons_of_neg (by simp)]
      rw [e1]
      have := drp_len r t.1
      simp only [List.length_cons] at hl
      omega
    · rw [drp_cf]
      split
      · exact Int.zero_emod _
      · exact hz x
theorem ws_neg (φ : Int → Int) : ∀ f : Pol, ws φ (f.map fun t => (t.1, t.2 * -1)) = ws φ f * -1
  | [] => rfl
  | t :: r => by
    show t.2 * -1 * φ t.1 + ws φ (r.map fun t => (t.1, t.2 * -1)) = (t.2 * φ t.1 + ws φ r) * -1
    rw [ws_neg φ r, Int.add_mul, Int.mul_right_comm]
theorem ws_congr {p : Int} (φ : Int → Int) {f g : Pol} (h : ∀ x, cf f x % p = cf g x % p) : ws φ f % p = ws φ g % p := by
  have := ws_zero (p := p) φ _ (f ++ g.map fun t => (t.1, t.2 * -1)) (Nat.le_refl _) fun x => by
    rw [cf_append, cf_scale]
    have := sub_of_eq (h x)
    rw [show cf f x + cf g x * -1 = cf f x - cf g x by omega]
    exact this
  rw [ws_append, ws_neg] at this
  refine eq_of_sub ?_
  rw [show ws φ f - ws φ g = ws φ f + ws φ g * -1 by omega]
  exact this
theorem ws_moved (φ : Int → Int) (a : Int) : ∀ f : Pol, ws φ (moved a f) = ws (fun x => φ (x + a)) f
  | [] => rfl
  | t :: r => by
    show t.2 * φ (t.1 + a) + ws φ (moved a r) = t.2 * φ (t.1 + a) + ws (fun x => φ (x + a)) r
    rw [ws_moved φ a r]
def wrap (n : Int) (f : Pol) : Pol := f.map fun t => (t.1 % n, t.2)
theorem cf_wrap (n e : Int) : ∀ f : Pol, cf (wrap n f) e = ws (fun x => if x % n = e then 1 else 0) f
  | [] => rfl
  | t :: r => by
    show (if t.1 % n = e then t.2 else 0) + cf (wrap n r) e = t.2 * (if t.1 % n = e then 1 else 0) + ws _ r
    rw [cf_wrap n e r]
    split <;> omega
/-- what 1 - t ** a divides has no class sums -/
theorem wrap_zero {p n a : Int} (hn : a % n = 0) {q f : Pol} (h : ∀ e, (cf q e - cf q (e - a)) % p = cf f e % p) (e : Int) : cf (wrap n f) e % p = 0 := by
  rw [cf_wrap]
  rw [ws_congr (p := p) (f := f) (g := q ++ (moved a q).map fun t => (t.1, t.2 * -1)) _ fun x => by
    rw [cf_append, cf_scale, cf_moved, ← h x]
    congr 1
    omega]
  rw [ws_append, ws_neg, ws_moved]
  have : (fun x : Int => if (x + a) % n = e then (1 : Int) else 0) = fun x => if x % n = e then 1 else 0 := funext fun x => by
    obtain ⟨c, rfl⟩ := Int.dvd_of_emod_eq_zero hn
    rw [Int.add_mul_emod_self_left]
  rw [this]
  rw [show ∀ z : Int, z + z * -1 = 0 by intro z; omega]
  exact Int.zero_emod _
/-! ### commuting: q (1 - t ** s) = f (1 - t ** k) -/
def Cm (p : Int) (f : Pol) (s : Int) (q : Pol) (k : Int) : Prop := ∀ e, (cf q e - cf q (e - s)) % p = (cf f e - cf f (e - k)) % p
theorem Cm.uniq {p : Int} (hp : p ∈ primes) {f q q' : Pol} {s k : Int} (hs : s ≠ 0) (nq : Nf p q (cf q)) (nq' : Nf p q' (cf q')) (h : Cm p f s q k) (h' : Cm p f s q' k) : q = q' := by
  have hpr := prime_rng p hp
  obtain ⟨g, ng⟩ := gap_ex (p := p) (by omega) s
  refine nq.uniq nq' fun e => conv_cancel hp ng.self (gap_ne hpr.1 hs ng) (fun e => ?_) e
  rw [gap_conv ng, gap_conv ng, h e, h' e]
theorem mod_sub {p a b c d : Int} (h : a % p = b % p) (k : c % p = d % p) : (a - c) % p = (b - d) % p := by
  rw [Int.sub_emod, h, k, ← Int.sub_emod]
theorem mod_add {p a b c d : Int} (h : a % p = b % p) (k : c % p = d % p) : (a + c) % p = (b + d) % p := by
  rw [Int.add_emod, h, k, ← Int.add_emod]
/-- a power's polynomial over its base -/
theorem Cm.power {p : Int} (hp : p ∈ primes) {f q : Pol} {s k n : Int} (hk : k ≠ 0) (hn : 0 ≤ n) (hs : s = n * k) (h : Cm p f s q k) (e : Int) : pwF (cf q) k n e % p = cf f e % p := by
  have hpr := prime_rng p hp
  obtain ⟨g, ng⟩ := gap_ex (p := p) (by omega) k
  have e1 : ∀ x, pwF (cf q) k n x = conv q (cf (rounds n.toNat k)) x := fun x => (pw_rounds q k hn x).symm
  have e2 : ∀ x, pwF (cf q) k n x = cf (prods q (rounds n.toNat k)) x := fun x => by rw [e1, cf_prods]
  have tel : ∀ x, pwF (cf q) k n x - pwF (cf q) k n (x - k) = cf q x - cf q (x - n * k) := fun x => by
    have h1 := pw_add (cf q) k 1 n x
    have h2 := pw_add (cf q) k n 1 x
    rw [pw_one] at h1 h2
    rw [Int.one_mul] at h1
    rw [Int.add_comm 1 n] at h1
    omega
  have key : ∀ x, cf (prods q (rounds n.toNat k)) x % p = cf f x % p := conv_cancel hp ng.self (gap_ne hpr.1 hk ng) fun x => by
    rw [gap_conv ng, gap_conv ng, ← e2, ← e2, tel, ← hs]
    exact h x
  rw [e2]
  exact key e
theorem Cm.of_power {p : Int} {f q : Pol} {s k n : Int} (hs : s = n * k) (h : ∀ e, pwF (cf q) k n e % p = cf f e % p) : Cm p f s q k := fun x => by
  have tel : pwF (cf q) k n x - pwF (cf q) k n (x - k) = cf q x - cf q (x - n * k) := by
    have h1 := pw_add (cf q) k 1 n x
    have h2 := pw_add (cf q) k n 1 x
    rw [pw_one] at h1 h2
    rw [Int.one_mul] at h1
    rw [Int.add_comm 1 n] at h1
    omega
  rw [hs, ← tel]
  exact mod_sub (h x) (h (x - k))
/-! ### the promises -/
def sp_wrapped (K : PySem.W.Frag) : Sp := fun vs H Q _ => ∃ (p : Int) (v : V) (f : Pol) (n : Int), vs = [.int p, v, .int n] ∧ 0 < p ∧ TPol K H v f ∧ f.length ≤ 1000000 ∧ 0 ≤ n ∧
  ∀ u H' g, Same H H' → TPol K H' u g → (n = 0 → g = f) → (n ≠ 0 → Nf p g (cf (wrap n f))) → Q u H'
def sp_divide_by_one_less (K : PySem.W.Frag) : Sp := fun vs H Q _ => ∃ (p : Int) (v : V) (f : Pol) (a : Int) (N : Nat), vs = [.int p, v, .int a] ∧ p ∈ primes ∧ TPol K H v f ∧ Nf p f (cf f) ∧ (∀ t ∈ f, ∀ s ∈ f, t.1 - s.1 < N) ∧ f.length + (N + 1) * 2 ≤ 1000000 ∧
  ∀ u H', Same H H' → ((u = .non ∧ ∀ q : Pol, ¬ ∀ e, (cf q e - cf q (e - a)) % p = cf f e % p) ∨ ∃ q, TPol K H' u q ∧ Nf p q (cf q) ∧ (∀ e, (cf q e - cf q (e - a)) % p = cf f e % p) ∧ q.length ≤ N) → Q u H'
def sp_root_of_moving (K : PySem.W.Frag) : Sp := fun vs H Q _ => ∃ (p : Int) (v : V) (f : Pol) (s n : Int) (N : Nat), vs = [.int p, v, .int n] ∧ p ∈ primes ∧ TEff K H v f s ∧ Nf p f (cf f) ∧ s ≠ 0 ∧ 0 < n ∧ n < 2 ^ 30 ∧ (∀ t ∈ f, ∀ u ∈ f, t.1 - u.1 < N) ∧ 2 * f.length + (N + s.natAbs + 1) * 2 ≤ 1000000 ∧
  ∀ u H', Same H H' → ((u = .non ∧ (s % n ≠ 0 ∨ ∀ q : Pol, ¬ Cm p f s q (s / n))) ∨ (s % n = 0 ∧ ∃ q, TEff K H' u q (s / n) ∧ Nf p q (cf q) ∧ Cm p f s q (s / n) ∧ q.length ≤ N + s.natAbs)) → Q u H'
def sp_nth_root (K : PySem.W.Frag) : Sp := fun vs H Q _ => ∃ (p : Int) (v : V) (f : Pol) (s n : Int) (N : Nat), vs = [.int p, v, .int n] ∧ p ∈ primes ∧ TEff K H v f s ∧ Nf p f (cf f) ∧ 0 < n ∧ n < 2 ^ 30 ∧ (∀ t ∈ f, ∀ u ∈ f, t.1 - u.1 < N) ∧ 2 * f.length + (N + s.natAbs + 1) * 2 ≤ 1000000 ∧
  (s ≠ 0 → ∀ u H', Same H H' → ((u = .non ∧ (s % n ≠ 0 ∨ ∀ q : Pol, ¬ Cm p f s q (s / n))) ∨ (s % n = 0 ∧ ∃ q, TEff K H' u q (s / n) ∧ Nf p q (cf q) ∧ Cm p f s q (s / n) ∧ q.length ≤ N + s.natAbs)) → Q u H') ∧
  (s = 0 → ∀ u H', Same H H' → ((u = .non ∧ f ≠ [] ∧ n % p = 0) ∨ (¬ (f ≠ [] ∧ n % p = 0) ∧ ∃ q, TEff K H' u q 0 ∧ Nf p q (cf q) ∧ q.length ≤ f.length ∧ ∀ e, n * cf q e % p = cf f e % p)) → Q u H')
/-- reciprocal of any number that the prime does not divide -/
def sp_reciprocalW : Sp := fun vs H Q _ => ∃ (p a : Int), vs = [.int p, .int a] ∧ p ∈ primes ∧ a % p ≠ 0 ∧ ∀ u : Int, 0 < u → u < p → u * a % p = 1 → Q (.int u) H
theorem rec_imp : ∀ vs H Q E, sp_reciprocal vs H Q E → sp_reciprocalW vs H Q E := by
  rintro vs H Q E ⟨p, a, rfl, hp, h0, h9, k⟩
  exact ⟨p, a, rfl, hp, by rw [Int.emod_eq_of_lt (by omega) h9]; omega, k⟩
theorem Cal.imp {P : Program} {w : World} {K : PySem.W.Frag} {mg : Str → Option Value} {base : Heap} {k : Nat} {x : Str} {sp sp' : Sp} (c : Cal P w K mg base k x sp) (h : ∀ vs H Q E, sp' vs H Q E → sp vs H Q E) : Cal P w K mg base k x sp' := by
  obtain ⟨f, fd, ps, F, r⟩ := c.ex
  exact ⟨f, fd, ps, F.imp h, r⟩
theorem mul_emod_r {p a b c : Int} (h : a * b % p = 1) : c * (a * b) % p = c % p := by
  rw [Int.mul_emod, h, Int.mul_one, Int.emod_emod]
/-! ### the laws' own long division, with its quotient -/
def sp__law_dividedQ (K : PySem.W.Frag) : Sp := fun vs H Q _ => ∃ (p : Int) (v1 v2 : V) (f g g0 g1 : Pol) (dg lead lg l0 : Int) (N : Nat), vs = [.int p, v1, v2] ∧ p ∈ primes ∧ TPol K H v1 f ∧ TPol K H v2 g ∧ Nf p f (cf f) ∧ Nf p g (cf g) ∧ g = g0 ++ [(dg, lead)] ∧ g = (lg, l0) :: g1 ∧ (∀ t ∈ f, ∀ s ∈ f, t.1 - s.1 < N) ∧ (∀ t ∈ g, ∀ s ∈ g, t.1 - s.1 < N) ∧ N ≤ 900 ∧
  ∀ (a : Addr) (x y : V) (H' : Hp) (q r : Pol), Same H H' → SqT K H' a [x, y] → TPol K H' x q → TPol K H' y r → Nf p q (cf q) → Nf p r (cf r) → (∀ e, (cf r e + cf (prods q g) e - cf f e) % p = 0) → (∀ t ∈ r, ∀ s ∈ r, t.1 - s.1 < dg - lg) → q.length ≤ N → Q (.ref a) H'
theorem ld_swap {p : Int} {q Q g R f : Pol} (nq : Nf p q (cf Q)) (h : ∀ e, (cf R e + cf (prods Q g) e - cf f e) % p = 0) (e : Int) : (cf R e + cf (prods q g) e - cf f e) % p = 0 := by
  have h1 : cf (prods q g) e % p = cf (prods Q g) e % p := by
    rw [cf_prods, cf_prods]
    exact conv_fst (fun x => by rw [nq.cof, Int.emod_emod]) g e
  rw [← h e]
  exact mod_sub (mod_add rfl h1) rfl
/-- what is narrower than a factor is nothing -/
theorem narrow_zero {p : Int} (hp : p ∈ primes) {h g r g0 g1 : Pol} {dg lead lg l0 : Int} (nh : Nf p h (cf h)) (ng : Nf p g (cf g)) (nr : Nf p r (cf r)) (hg : g = g0 ++ [(dg, lead)]) (hg1 : g = (lg, l0) :: g1) (he : ∀ e, conv h (cf g) e % p = cf r e % p) (w : ∀ t ∈ r, ∀ s ∈ r, t.1 - s.1 < dg - lg) : h = [] ∧ r = [] := by
  have hpr := prime_rng p hp
  by_cases z : h = []
  · refine ⟨z, nf_zero nr fun e => ?_⟩
    rw [← he e, z]
    exact Int.zero_emod _
  · exfalso
    obtain ⟨h0, dh, ch, hh⟩ := ne_snoc z
    obtain ⟨t, h1, hh1⟩ : ∃ t h1, h = t :: h1 := by
      cases h with
      | nil => exact absurd rfl z
      | cons t h1 => exact ⟨t, h1, rfl⟩
    have b1 : cf r (t.1 + lg) ≠ 0 := fun e0 => by
      have e1 := he (t.1 + lg)
      rw [e0, hh1, hg1, conv_least (t := t) (u := (lg, l0)) (by rw [← hh1]; exact nh.asc) (by rw [← hg1]; exact ng.asc)] at e1
      exact prime_nz hp (nh.rng t (by rw [hh1]; simp)).1 (nh.rng t (by rw [hh1]; simp)).2 (ng.rng (lg, l0) (by rw [hg1]; simp)).1 (ng.rng (lg, l0) (by rw [hg1]; simp)).2 (e1.trans (Int.zero_emod _))
    have b2 : cf r (dh + dg) ≠ 0 := fun e0 => by
      have e1 := he (dh + dg)
      have ah := nh.asc
      have ag := ng.asc
      rw [hh] at ah
      rw [hg] at ag
      rw [e0, hh, hg, conv_great (t := (dh, ch)) (u := (dg, lead)) ah ag] at e1
      exact prime_nz hp (nh.rng (dh, ch) (by rw [hh]; simp)).1 (nh.rng (dh, ch) (by rw [hh]; simp)).2 (ng.rng (dg, lead) (by rw [hg]; simp)).1 (ng.rng (dg, lead) (by rw [hg]; simp)).2 (e1.trans (Int.zero_emod _))
    obtain ⟨t1, m1, e1⟩ := cf_ne b1
    obtain ⟨t2, m2, e2⟩ := cf_ne b2
    have := w t2 m2 t1 m1
    have ht : t.1 ≤ dh := by
      have ah := nh.asc
      rw [hh1] at ah
      exact asc_le ah (u := (dh, ch)) (by rw [← hh1, hh]; simp)
    omega
end DR
namespace DR
open PySem PySem.Spec PyProof.Rows L2
/-! ### commuting is the same fraction f / (1 - t ** s) -/
theorem Cm.refl {p : Int} (f : Pol) (s : Int) : Cm p f s f s := fun _ => rfl
theorem Cm.symm {p : Int} {f q : Pol} {s k : Int} (h : Cm p f s q k) : Cm p q k f s := fun e => (h e).symm
theorem Cm.trans {p : Int} (hp : p ∈ primes) {f q r : Pol} {s k m : Int} (hk : k ≠ 0) (h : Cm p f s q k) (h2 : Cm p q k r m) : Cm p f s r m := by
  have hpr := prime_rng p hp
  obtain ⟨g, ng⟩ := gap_ex (p := p) (by omega) k
  let A : Pol := r ++ (moved s r).map fun t => (t.1, t.2 * -1)
  let B : Pol := f ++ (moved m f).map fun t => (t.1, t.2 * -1)
  have hA : ∀ e, cf A e = cf r e - cf r (e - s) := fun e => by
    show cf (r ++ (moved s r).map fun t => (t.1, t.2 * -1)) e = _
    rw [cf_append, cf_scale, cf_moved]
    omega
  have hB : ∀ e, cf B e = cf f e - cf f (e - m) := fun e => by
    show cf (f ++ (moved m f).map fun t => (t.1, t.2 * -1)) e = _
    rw [cf_append, cf_scale, cf_moved]
    omega
  have key : ∀ e, cf A e % p = cf B e % p := conv_cancel hp ng.self (gap_ne hpr.1 hk ng) fun e => by
    rw [gap_conv ng, gap_conv ng, hA, hA, hB, hB]
    have e1 := mod_sub (h2 e) (h2 (e - s))
    have e2 := mod_sub (h e) (h (e - m))
    rw [show cf r e - cf r (e - s) - (cf r (e - k) - cf r (e - k - s)) = cf r e - cf r (e - k) - (cf r (e - s) - cf r (e - s - k)) by rw [show e - k - s = e - s - k by omega]; omega, e1]
    rw [show cf f e - cf f (e - m) - (cf f (e - k) - cf f (e - k - m)) = cf f e - cf f (e - k) - (cf f (e - m) - cf f (e - m - k)) by rw [show e - k - m = e - m - k by omega]; omega, ← e2]
    congr 1
    rw [show e - s - m = e - m - s by omega]
    omega
  exact fun e => by rw [← hA, ← hB, key e]
/-- powers and inverses -/
theorem Cm.pw {p : Int} {f r : Pol} {s : Int} (c : Int) (nr : Nf p r (fun e => pwF (cf f) s c e)) : Cm p f s r (c * s) := fun x => by
  have tel : pwF (cf f) s c x - pwF (cf f) s c (x - s) = cf f x - cf f (x - c * s) := by
    have h1 := pw_add (cf f) s 1 c x
    have h2 := pw_add (cf f) s c 1 x
    rw [pw_one] at h1 h2
    rw [Int.one_mul] at h1
    rw [Int.add_comm 1 c] at h1
    omega
  rw [← tel]
  exact mod_sub (by rw [nr.cof, Int.emod_emod]) (by rw [nr.cof, Int.emod_emod])
theorem Cm.inv {p : Int} {f r : Pol} {s : Int} (nr : Nf p r (fun e => cf f (e + s) * -1)) : Cm p f s r (-s) := fun x => by
  rw [show (cf f x - cf f (x - -s)) = cf f (x + s) * -1 - cf f (x - s + s) * -1 by rw [show x - s + s = x by omega, show x - -s = x + s by omega]; omega]
  exact mod_sub (by rw [nr.cof, Int.emod_emod]) (by rw [nr.cof, Int.emod_emod])
/-- the shifts of what commutes -/
def Ks (p : Int) (f : Pol) (s m : Int) : Prop := ∃ q : Pol, Cm p f s q m
theorem Ks.sub {p : Int} {f : Pol} {s a b : Int} (h : Ks p f s a) (h2 : Ks p f s b) : Ks p f s (a - b) := by
  obtain ⟨q, hq⟩ := h
  obtain ⟨r, hr⟩ := h2
  refine ⟨q ++ (moved (a - b) r).map fun t => (t.1, t.2 * -1), fun e => ?_⟩
  rw [cf_append, cf_append, cf_scale, cf_scale, cf_moved, cf_moved]
  have e1 := mod_sub (hq e) (hr (e - (a - b)))
  rw [show cf f e - cf f (e - (a - b)) = cf f e - cf f (e - a) - (cf f (e - (a - b)) - cf f (e - (a - b) - b)) by rw [show e - (a - b) - b = e - a by omega]; omega, ← e1]
  congr 1
  rw [show e - s - (a - b) = e - (a - b) - s by omega]
  omega
theorem Ks.neg {p : Int} {f : Pol} {s a : Int} (h : Ks p f s a) : Ks p f s (-a) := by
  have h0 := h.sub h
  have := h0.sub h
  rw [show a - a - a = -a by omega] at this
  exact this
theorem Ks.abs {p : Int} {f : Pol} {s a : Int} (h : Ks p f s a) : Ks p f s ((a.natAbs : Nat) : Int) := by
  rcases Int.natAbs_eq a with e | e
  · rw [← e]
    exact h
  · have := h.neg
    rw [show ((a.natAbs : Nat) : Int) = -a by omega]
    exact this
theorem Ks.of_abs {p : Int} {f : Pol} {s a : Int} (h : Ks p f s ((a.natAbs : Nat) : Int)) : Ks p f s a := by
  rcases Int.natAbs_eq a with e | e
  · rw [e]
    exact h
  · rw [e]
    exact h.neg
/-- the greatest count gives the least shift -/
theorem prim_of_max {p : Int} {f : Pol} {s k c : Int} (hs : s ≠ 0) (hc : 0 < c) (hsk : s = c * k) (hk : Ks p f s k) (hmax : ∀ c' : Int, c < c' → c' ≤ (s.natAbs : Int) → s % c' = 0 → ¬ Ks p f s (s / c')) : ∀ m, Ks p f s m → k ∣ m := by
  intro m hm
  have hk0 : k ≠ 0 := fun z => hs (by rw [hsk, z, Int.mul_zero])
  have hd := sub_gcd (S := Ks p f s) (fun a b h1 h2 => h1.sub h2) m.natAbs k.natAbs hm.abs hk.abs
  obtain ⟨j, hj⟩ := Nat.gcd_dvd_right m.natAbs k.natAbs
  have hd0 : 0 < Nat.gcd m.natAbs k.natAbs := Nat.gcd_pos_of_pos_right _ (by omega)
  obtain ⟨i, hi⟩ := Nat.gcd_dvd_left m.natAbs k.natAbs
  generalize Nat.gcd m.natAbs k.natAbs = d at hd hj hd0 hi
  have hj0 : 0 < j := by
    rcases Nat.eq_zero_or_pos j with z | z
    · rw [z, Nat.mul_zero] at hj
      omega
    · exact z
  have hj1 : j = 1 := by
    by_cases z : j = 1
    · exact z
    · exfalso
      have hcj : c * 1 < c * (j : Int) := Int.mul_lt_mul_of_pos_left (by omega) hc
      have hsa : (s.natAbs : Int) = c * (j : Int) * (d : Int) := by
        rw [hsk, Int.natAbs_mul, hj]
        rw [Int.natCast_mul, Int.natCast_mul]
        rw [show ((c.natAbs : Nat) : Int) = c by omega, Int.mul_assoc, Int.mul_comm (d : Int)]
      have hle : c * (j : Int) ≤ (s.natAbs : Int) := by
        rw [hsa]
        have : c * (j : Int) * 1 ≤ c * (j : Int) * (d : Int) := Int.mul_le_mul_of_nonneg_left (by omega) (by omega)
        omega
      rcases Int.natAbs_eq s with e | e
      · rw [hsa] at e
        refine hmax (c * (j : Int)) (by omega) hle ?_ ?_
        · rw [e]
          exact Int.mul_emod_right _ _
        · rw [show s / (c * (j : Int)) = (d : Int) by rw [e]; exact Int.mul_ediv_cancel_left _ (by omega)]
          exact hd
      · rw [hsa] at e
        have e' : s = c * (j : Int) * (-(d : Int)) := by rw [e, Int.mul_neg]
        refine hmax (c * (j : Int)) (by omega) hle ?_ ?_
        · rw [e']
          exact Int.mul_emod_right _ _
        · rw [show s / (c * (j : Int)) = -(d : Int) by rw [e']; exact Int.mul_ediv_cancel_left _ (by omega)]
          exact hd.neg
  rw [hj1, Nat.mul_one] at hj
  refine Int.natAbs_dvd_natAbs.mp ⟨i, ?_⟩
  rw [hj, ← hi]
/-- what root gives -/
structure IsR (p : Int) (f : Pol) (s : Int) (q : Pol) (k c : Int) : Prop where
  nf : Nf p q (cf q)
  pos : 0 < c
  mul : s = c * k
  cm : Cm p f s q k
  prim : ∀ m, Ks p f s m → k ∣ m
theorem IsR.k0 {p : Int} {f q : Pol} {s k c : Int} (h : IsR p f s q k c) (hs : s ≠ 0) : k ≠ 0 := fun z => hs (by rw [h.mul, z, Int.mul_zero])
theorem abs_eq_of {a b : Int} (h : a ∣ b) (h' : b ∣ a) : a = b ∨ a = -b := by
  have := Nat.dvd_antisymm (Int.natAbs_dvd_natAbs.mpr h) (Int.natAbs_dvd_natAbs.mpr h')
  omega
/-- two of one fraction: the same base, up to the sign -/
theorem IsR.class {p : Int} (hp : p ∈ primes) {f f' q q' : Pol} {s s' k k' c c' : Int} (h : IsR p f s q k c) (hs : s ≠ 0) (h' : IsR p f' s' q' k' c') (hs' : s' ≠ 0) (hcm : Cm p f s f' s') : k' = k ∨ k' = -k := by
  have h1 := h'.prim k ⟨q, hcm.symm.trans hp hs h.cm⟩
  have h2 := h.prim k' ⟨q', hcm.trans hp hs' h'.cm⟩
  exact abs_eq_of h1 h2
theorem IsR.same_q {p : Int} (hp : p ∈ primes) {f f' q' r : Pol} {s s' k' c' : Int} (hs : s ≠ 0) (h' : IsR p f' s' q' k' c') (hs' : s' ≠ 0) (hcm : Cm p f s f' s') (nr : Nf p r (cf r)) (hr : Cm p f s r k') : q' = r :=
  Cm.uniq hp hs h'.nf nr (hcm.trans hp hs' h'.cm) hr
def sp_root (K : PySem.W.Frag) : Sp := fun vs H Q _ => ∃ (p : Int) (v : V) (f : Pol) (s : Int) (N : Nat), vs = [.int p, v] ∧ p ∈ primes ∧ TEff K H v f s ∧ Nf p f (cf f) ∧ s ≠ 0 ∧ s.natAbs < 2 ^ 20 ∧ (∀ t ∈ f, ∀ u ∈ f, t.1 - u.1 < N) ∧ 2 * f.length + (N + s.natAbs + 1) * 2 ≤ 1000000 ∧
  ∀ a u H' q k c, Same H H' → SqT K H' a [u, .int c] → TEff K H' u q k → IsR p f s q k c → q.length ≤ N + s.natAbs → Q (.ref a) H'
end DR
namespace DR
open PySem PySem.Spec PyProof.Rows L2
/-- an own exception class over ValueError, without own __init__ -/
structure OwnV (K : PySem.W.Frag) (mg : Str → Option Value) (x : Str) (C : Addr) : Prop where
  mg : mg x = some (.ref C)
  ex : PySem.W.excIn K C [.type "ValueError", .type "Exception", .type "BaseException", .type "object"] "ValueError.__new__" = true
  kp : PySem.W.keepIn K (.ref C) = true
  sub : PySem.W.subIn K (.ref C) (.type "BaseException") = some true
  ty : PySem.W.typeIn K (.ref C) = some (.type "type")
theorem ps_raise0V {X : Cx} {W : WX} {C : Addr} {x : Str} {p pos pos' : Pos} (Z : OwnV X.K X.mg x C) (hc : X.calm = true) (tk : Takes X W) (hg : Gl X x) (hdb : (x == ("__debug__" : Str)) = false := by decide) :
    PS X (.Raise (some (.Call (.Name x p) [] [] pos)) none pos') (fun _ σ H => W (.ref C) none σ H) :=
  ps_raise hc tk (pmk_own0 PySem.F.excBase_ValueError Z.ex Z.mg Z.kp (raises_own Z.sub Z.ty) hg hdb)
/-- root: of an effect that does not move it raises -/
def sp_rootX (K : PySem.W.Frag) (C : Addr) : Sp := fun vs H Q E => (∃ (p : Int) (v : V) (f : Pol), vs = [.int p, v] ∧ TEff K H v f 0 ∧ E (.ref C) none H) ∨ sp_root K vs H Q E
end DR
namespace L2
open PySem PySem.Spec PyProof.Rows
/-! ### an exception that is kept behind its except suite: there it is tracked -/
/-- at a lies an exception of the class cls, with the dict d -/
def Lies (cls : Value) (d : Option Addr) (a : Addr) (h : Heap) : Prop := ∃ (ob : Obj) (parts : Array Value), h.get? a = some ob ∧ Zc cls d ob ∧ ob.data = .fields parts
def HeldX (cls : Value) (d : Option Addr) (a : Addr) : HO := .ext (Lies cls d a)
theorem heldX_ok {P : Program} {w : World} {H : Hp} {h : Heap} {a : Addr} {cls : Value} {d : Option Addr} (l : Lies cls d a h) : ObjOk P w H h a (HeldX cls d a) := by
  obtain ⟨ob, parts, there, z, data⟩ := l
  refine ⟨⟨ob, parts, there, z, data⟩, ⟨ob, there⟩, ?_⟩
  rintro _ _ ⟨o, v, q, r⟩ k
  exact ⟨o, v, k o q, r⟩
section
variable {X : Cx} {pins : List (Addr × Obj)} {σ : St} {H : Hp} {s : Shared}
/-- what no one tracks, and what was not there at the entry, may be tracked from now on -/
theorem Inv.hold {a : Addr} {o : HO} (I : Inv X pins σ H s) (na : H a = none) (n0 : X.s_0.heap.get? a = none) (nl : X.env.locals ≠ a) (nc : ∀ y c, X.env.cells.lookup y = some c → c ≠ a) (np : ∀ p ∈ X.pn ++ pins, p.1 ≠ a)
    (fits : ObjOk X.prog X.w (upd H a o) s.heap a o) : Inv X pins σ (upd H a o) s := by
  have stays : ∀ {b : Addr} {u : HO}, H b = some u → upd H a o b = some u := fun {b u} e => (upd_ne (ne_of_none e na)).trans e
  have old : ∀ b u, X.s_0.heap.get? b = some u → b ≠ a := fun b u e z => by
    rw [z, n0] at e
    cases e
  have off : ∀ {b : Addr}, H b = none → b ≠ a → upd H a o b = none := fun {b} e n => (upd_ne n).trans e
  have U := I.base
  refine { I with base := { U with free := ?_, tups := ?_, frzs := ?_, tbls := ?_ }, free := off I.free nl, freeC := ?_, pin := ?_, hok := ?_ }
  · exact fun b u e n x => off (U.free b u e n x) (old b u e)
  · exact fun b xs e => stays (U.tups b xs e)
  · exact fun b u v e => stays (U.frzs b u v e)
  · exact fun b ps e => (U.tbls b ps e).imp fun _ q => stays q
  · exact fun y c e => off (I.freeC y c e) (nc y c e)
  · exact fun p hp => (I.pin p hp).imp id fun r => ⟨off r.1 (np p hp), r.2⟩
  · intro b u e
    by_cases z : b = a
    · subst z
      rw [upd_same] at e
      cases e
      exact fits
    · rw [upd_ne z] at e
      exact (I.hok b u e).stay (fun _ _ _ q => q) (fun _ q => stays q) fun _ _ q => stays q
/-- what the clause wishes of an exception that it keeps -/
def wHold (K : PySem.W.Frag) (c : Value) (i : Nat) (ts : Addr → Value → Option Addr → TS) (D : Ends) : WX := fun cls d σ H =>
  PySem.W.exmOne K cls c = some true ∧ ∀ a, H a = none → ts a cls d { nx := fun σ' H' => D.nx (σ'.set i none) (upd H' a (HeldX cls d a)), rt := fun _ _ => False, bk := fun _ _ => False, ct := fun _ _ => False } (σ.set i (some (.ref a))) H
/-- where an exception of the body arrives -/
def Arrives (X : Cx) (pins : List (Addr × Obj)) (D : Ends) (clauses : List ExceptHandler) (e : Value) (s : Shared) : Prop :=
  wpAny (model X.prog X.w) X.A (noteFrame e X.env) (fun _ s₂ => wpAny (model X.prog X.w) X.A (setFlight e none) (fun _ s₃ => wpAny (model X.prog X.w) X.A (handleBy e X.env clauses) (SP X pins D) X.xe s₃) X.xe s₂) X.xe s
end
section
variable {X : Cx} {x n : Str} {c : Value} {i : Nat} {body suite : List Stmt} {first : Stmt} {np pos pos' : Pos} {tb : WX → TS} {ts : Addr → Value → Option Addr → TS}
/-- what stands in the try is read as tb, wherever it sends its exceptions -/
def BodyAs (X : Cx) (body : List Stmt) (tb : WX → TS) : Prop :=
  ∀ (wished : WX) (q : List (Addr × Obj)) (away : Value → Shared → Prop),
    Takes (X.tr q away) wished → PassesOwn (model X.prog X.w) X.A X.env away →
      PSs (X.tr q away) body (tb wished)
theorem ps_try_hold (hs : X.stack = X.env :: X.outer) (hf : X.env.frame = some X.env.locals) (hx : X.ex = []) (nd : X.N.Nodup) (hi : X.N[i]? = some n) (hl : X.env.kindOf n = some .local) (hc : Names X x c)
    (hb : BodyAs X body tb)
    (hsu : ∀ (a : Addr) (oe : Obj) (cls : Value) (d : Option Addr) (pn : List (Addr × Obj)), Zc cls d oe → (∃ vs, oe.data = .fields vs) → PSs (X.suite a ((a, oe) :: pn)) (first :: suite) (ts a cls d)) :
    PS X (.Try body [.ExceptHandler (some (.Name x np)) (some n) (first :: suite) pos'] [] [] pos) (fun D σ H => tb (wHold X.K c i ts D) D σ H) := by
  constructor
  intro pins s σ H D I told
  have ok := I.ok
  apply wpAny_Try_except
  have ran := (hb (wHold X.K c i ts D) (X.pn ++ pins) (Arrives X pins D [.ExceptHandler (some (.Name x np)) (some n) (first :: suite) pos']) ?caught PassesOwn.looking).run [] s σ H D (I.toTry _) told
  case caught =>
    rintro _ far ⟨a, B, sI, own, σ', H', cls, d, rfl, J', grown, up, sky, na, os, bare, fits, wish⟩
    have J := Inv.ofTry J' ok
    have frames : X.A.frames = some (X.env :: X.outer) := hs ▸ ok.frames
    have sky1 : Sky B (X.env :: X.outer) a (Zc cls d) X.env.locals far.heap := hs ▸ sky
    show wpAny _ X.A (noteFrame (.ref a) X.env) _ _ _
    refine Sky.land Zc.steady frames hf sky1 fun h1 land1 up1 => ?_
    obtain ⟨_, bare1, fun1, _⟩ := id land1
    obtain ⟨o1, parts1, there1, z1, data1⟩ := land1.there
    -- it is neither a frame nor what was there before
    have noFrame : a ∉ frs (X.env :: X.outer) := fun among => by
      obtain ⟨_, o', e', notData⟩ := fun1.mem among
      rw [there1] at e'
      cases e'
      exact notData _ data1
    have nL : a ≠ X.env.locals := fun z => noFrame (List.mem_filterMap.mpr ⟨X.env, List.mem_cons_self, hf.trans (congrArg some z.symm)⟩)
    have nF : a ∉ X.fs := fun among => by
      obtain ⟨e, he, q⟩ := List.mem_filterMap.mp among
      exact noFrame (List.mem_filterMap.mpr ⟨e, List.mem_cons_of_mem _ he, q⟩)
    have nI : sI.heap.get? a = none := by
      cases e : sI.heap.get? a with
      | none => rfl
      | some o =>
        have z := grown a o e (by rw [show (X.tr (X.pn ++ pins) _).stack = X.env :: X.outer from hs]; exact noFrame)
        rw [bare1] at z
        cases z
    have n0 : X.s_0.heap.get? a = none := Option.eq_none_iff_forall_ne_some.mpr fun o e => by
      obtain ⟨_, z⟩ := J.base.there a o e (hx ▸ fun z => nomatch z)
      rw [nI] at z
      cases z
    have nC : ∀ y q, X.env.cells.lookup y = some q → q ≠ a := fun y q e z => by
      obtain ⟨_, o, ho, _⟩ := J.cell y q e
      rw [z, nI] at ho
      cases ho
    have nP : ∀ p ∈ X.pn ++ pins, p.1 ≠ a := fun p hp z => by
      have e := (J.pin p hp).1
      rw [z, nI] at e
      cases e
    have J1 : Inv X pins σ' H' { far with heap := h1 } := J.landed grown land1.1 (up.trans up1) os bare
    have looks : PySem.W.Looks (model X.prog X.w) h1 (typeOf (.ref a)) cls := fun A Q E st k q => wpAny_typeOf_ref (k _ _ there1) (z1.1.symm ▸ q)
    have same := PySem.W.exm_one (M := model X.prog X.w) J1.kIn looks fits
    refine wpAny_handleBy_cons (codeAny_handlers_test ?_) (by rintro ⟨⟩)
    have S1 := J1.suite there1 data1 na nL nF
    have named : ∀ {Q : Value → Shared → Prop} {E : Value → Shared → Prop}, Q c { far with heap := h1 } → wpAny (model X.prog X.w) (X.A.mark (some (.ref a))) (eval (.Name x np) X.env) Q E { far with heap := h1 } := fun {Q E} q => by
      rcases hc with ⟨g, dbg, m | ⟨m, v, o⟩⟩
      · exact ld_glob (X := X.suite a ((a, o1) :: (X.pn ++ pins))) S1 g m q dbg
      · exact ld_blt (X := X.suite a ((a, o1) :: (X.pn ++ pins))) S1 g m v q o dbg
    apply named
    apply same.here
    apply codeAny_handlers_suite_as
    refine HandSPX.lands_againZ land1 fun h2 land2 up2 => ?_
    obtain ⟨o2, parts2, there2, z2, data2⟩ := land2.there
    have J2 : Inv X pins σ' H' { far with heap := h2 } := J.landed grown land2.1 ((up.trans up1).trans up2) os bare
    have S2 := J2.suite there2 data2 na nL nF
    refine store_ok (X := X.suite a ((a, o2) :: (X.pn ++ pins))) (v := .ref a) S2 nd hi (.inl hl) rfl (fun s3 S3 => ?_) (.inr hl)
    refine wpAny_mono ((hsu a o2 cls d (X.pn ++ pins) z2 ⟨_, data2⟩).run [] s3 _ H' _ S3 (wish a na)) ?_ fun _ _ never => False.elim never
    intro fl s4 over
    cases fl
    case next =>
      obtain ⟨σ4, H4, S4, more⟩ := over
      refine gone_ok (X := X.suite a ((a, o2) :: (X.pn ++ pins))) S4 nd hi hl fun s5 S5 => ?_
      obtain ⟨still, free5, _⟩ := S5.pin (a, o2) (List.mem_append_left _ List.mem_cons_self)
      have J5 : Inv X pins _ H4 s5 := S5.unsuite ok
      exact ⟨_, _, J5.hold free5 n0 nL.symm nC nP (heldX_ok ⟨o2, parts2, still, z2, data2⟩), more⟩
    case ret u =>
      obtain ⟨_, _, _, _, _, z⟩ := over
      exact z.elim
    all_goals
      obtain ⟨_, _, _, z⟩ := over
      exact z.elim
  refine wpAny_mono ran ?_ fun e s1 he => he
  intro fl s1 over
  cases fl
  case next =>
    obtain ⟨σ', H', J, q⟩ := over
    exact wpAny_execs_nil ⟨σ', H', J.ofTry ok, q⟩
  case ret u =>
    obtain ⟨v, σ', H', J, r, q⟩ := over
    exact ⟨v, σ', H', J.ofTry ok, r, q⟩
  all_goals
    obtain ⟨σ', H', J, q⟩ := over
    exact ⟨σ', H', J.ofTry ok, q⟩
end
/-! ### isinstance of an exception that is held -/
def rIsH (K : PySem.W.Frag) (D : Addr) : List V → Hp → VK → Prop := fun given H Q => ∃ (a : Addr) (k : V) (kv : Value) (yes : Bool), given = [.ref a, k] ∧ H a = some (HeldX (.ref D) none a) ∧ (∀ u, RelV k u → u = kv) ∧ PySem.W.kitOne K (.ref D) kv = some yes ∧ Q (.bl yes) H
theorem call_isH {X : Cx} {D : Addr} (C : ExcC X.K D) : CallR X (.builtin "isinstance") (rIsH X.K D) := by
  intro pins s σ H given us Q I r told
  obtain ⟨a, k, kv, yes, rfl, there, is, kit, told⟩ := told
  obtain ⟨u1, u2, rfl, r1, r2⟩ := vals2 r
  cases r1
  obtain rfl := is u2 r2
  obtain ⟨⟨⟨oc, od, data, sl⟩, parts, e, ⟨zc, zd⟩, hd⟩, _, _⟩ := I.hok a _ there
  dsimp only at zc zd hd
  subst zc zd hd
  have at_a : PySem.W.InstAt s.heap a _ D none := ⟨e, rfl, rfl, trivial⟩
  exact PySem.W.kia_one (PySem.W.handS_kitx_exc C.hg C.hk C.hs C.hd C.ha C.hn C.ht C.hm) I.kIn at_a kit (fun z => nomatch z) fun tk => ⟨.bl yes, H, I.kept (t' := tk) fun _ _ z => z, rfl, told⟩
/-- .. with a tuple of classes -/
def rIsHT (K : PySem.W.Frag) (D : Addr) : List V → Hp → VK → Prop := fun given H Q => ∃ (a tp : Addr) (ks : List V) (kvs : List Value) (yes : Bool), given = [.ref a, .ref tp] ∧ H a = some (HeldX (.ref D) none a) ∧ SqT K H tp ks ∧ (∀ us, Vals ks us → us = kvs) ∧ PySem.W.kitAny K (.ref D) kvs = some yes ∧ Q (.bl yes) H
theorem call_isHT {X : Cx} {D : Addr} (C : ExcC X.K D) : CallR X (.builtin "isinstance") (rIsHT X.K D) := by
  intro pins s σ H given us Q I r told
  obtain ⟨a, tp, ks, kvs, yes, rfl, there, hT, is, kit, told⟩ := told
  obtain ⟨v1, v2, rfl, r1, r2⟩ := vals2 r
  cases r1
  cases r2
  obtain ⟨items, rel, ⟨⟨tc, td, tdata, tsl⟩, e2, tcls, n, tseq⟩, _⟩ := I.tuple hT
  obtain rfl := is items rel
  dsimp only at tcls tseq
  subst tcls tseq
  obtain ⟨⟨⟨oc, od, data, sl⟩, parts, e, ⟨zc, zd⟩, hd⟩, _, _⟩ := I.hok a _ there
  dsimp only at zc zd hd
  subst zc zd hd
  have at_a : PySem.W.InstAt s.heap a _ D none := ⟨e, rfl, rfl, trivial⟩
  exact PySem.W.kia_tup (PySem.W.handS_kitx_exc C.hg C.hk C.hs C.hd C.ha C.hn C.ht C.hm) I.kIn at_a e2 kit (fun z => nomatch z) fun tk => ⟨.bl yes, H, I.kept (t' := tk) fun _ _ z => z, rfl, told⟩
end L2
namespace L2
open PySem PySem.Spec PyProof.Rows
/-! ### own exception classes over any built-in one, whose `__init__` keeps one field -/
/-- the class at C stands over the built-in class B -/
structure Over (K : PySem.W.Frag) (B newId initId : String) (line : List Value) (C : Addr) : Prop where
  fb : ExcBaseFacts B newId initId line
  sf : StoreFacts B line "object.__setattr__" "object"
  ini : PySem.W.excInitIn K C line newId = true
  ovr : PySem.W.excOver K C line = true
  own : PySem.W.hasDictIn K C = true ∧ PySem.W.keepIn K (.ref C) = true
  slots : PySem.W.findIn K (.ref C) "__setattr__" = some (some (.builtin "object.__setattr__")) ∧ PySem.W.findIn K (.ref C) "__getattribute__" = some (some (.builtin "BaseException.__getattribute__")) ∧ PySem.W.findIn K (.ref C) "__getattr__" = some none
  sub : PySem.W.subIn K (.ref C) (.type "BaseException") = some true
  ty : PySem.W.typeIn K (.ref C) = some (.type "type")
section
variable {X : Cx} {pins : List (Addr × Obj)} {σ : St} {H : Hp} {s : Shared} {a C : Addr} {f : Str} {y : V} {u : Value} {Q : Unit → Shared → Prop} {E : Value → Shared → Prop} {A : Around} {B newId initId : String} {line : List Value}
/-- the first field of an exception that is being made -/
theorem first_field (T : Over X.K B newId initId line C) (I : Inv X pins σ H s) (e : H a = some (exo a C none)) (hno : PySem.W.findIn X.K (.ref C) f = some none) (ry : RelV y u)
    (on : ∀ q s1, H q = none → q ≠ a → Inv X pins σ (upd (upd H q (exd q [(f, y)])) a (exo a C (some q))) s1 → Q () s1) : wpAny (model X.prog X.w) A (setAttr (.ref a) f u) Q E s := by
  have ⟨t1, ho⟩ := exo_at I.hok e
  have tk : PySem.W.takerIn X.K C f = some none := by
    unfold PySem.W.takerIn
    rw [hno, Option.bind_some]
  obtain ⟨hp, g, d, t, os⟩ := s
  have here : PySem.W.InstAt hp a { cls := .ref C, dict := none, data := .fields #[.ref t1, .none, .none, .none, .bool false, .none] } C none := ⟨ho, rfl, rfl, trivial⟩
  refine PySem.W.set_plain I.kIn here T.slots.1 ?_
  refine PySem.W.osa_openX T.sf I.kIn here T.ovr tk fun b => ?_
  obtain ⟨cd, hc, hd⟩ := PySem.W.any_some T.own.1
  refine wpAny_bind (wpAny_pure (wpAny_bind (PySem.W.instanceDict_exc (t := t1) (c2 := .none) ho (PySem.W.looks_clsIn I.kIn hc) hd ?_)))
  have ha : a < hp.objs.size := Heap.lt_size ho
  have ne : hp.objs.size ≠ a := Nat.ne_of_gt ha
  have ho1 : (hp.push (PySem.W.dictOf [] 0)).get? a = some _ := Heap.get?_push_of_some _ ho
  -- the heap with the dict laid and tied to the exception
  generalize eG : (hp.push (PySem.W.dictOf [] 0)).update a (fun o => { o with dict := some hp.objs.size }) = G
  have Ga : G.get? a = some { cls := .ref C, dict := some hp.objs.size, data := .fields #[.ref t1, .none, .none, .none, .bool false, .none] } := by
    rw [← eG]
    exact Heap.get?_update_self _ ho1 rfl
  have Gk : ∀ b o, b ≠ a → hp.get? b = some o → G.get? b = some o := fun b o hb q => by
    rw [← eG]
    exact (Heap.get?_update_ne _ _ _ _ hb).trans (Heap.get?_push_of_some _ q)
  have Gd : G.get? hp.objs.size = some (PySem.W.dictOf [] 0) := by
    rw [← eG]
    exact (Heap.get?_update_ne _ _ _ _ ne).trans (Heap.get?_push_at rfl rfl)
  show wpAny _ _ (Builtin.ObjectAttr.storeInDict hp.objs.size _ f u) _ _ ⟨G, g, d, _, os⟩
  refine HandSPX.store_in_new ⟨_, #[], _, Gd, rfl, fun x hx => absurd hx (by simp), fun _ => rfl⟩ fun h' tk' hn same => ?_
  have k : ∀ b o, b ≠ a → hp.get? b = some o → h'.get? b = some o := fun b o hb q => (same.2 b (Nat.ne_of_lt (Heap.lt_size q))).trans (Gk b o hb q)
  have hx : h'.get? a = some _ := (same.2 a ne.symm).trans Ga
  have hnd : H hp.objs.size = none := I.hok.fresh (Nat.le_refl _)
  have off : ∀ {b : Addr} {o : Obj}, hp.get? b = some o → b ≠ hp.objs.size := fun {b o} q => Nat.ne_of_lt (Heap.lt_size q)
  have apart : ∀ {b : Addr}, H b = none → b ≠ a := fun {b} n z => by
    rw [z, e] at n
    cases n
  have only : ∀ {b : Addr} {v : HO}, H b = some v → exo a C none ≠ v → upd (upd H hp.objs.size (exd hp.objs.size [(f, y)])) a (exo a C (some hp.objs.size)) b = some v := fun {b v} q z => by
    rw [upd_ne (at_ne e q z), upd_ne (ne_of_none q hnd)]
    exact q
  have step : Un X.fs [] H (upd (upd H hp.objs.size (exd hp.objs.size [(f, y)])) a (exo a C (some hp.objs.size))) hp h' := by
    constructor
    · exact fun b o q n _ _ => k b o (apart n) q
    · exact fun b o q n _ _ => ⟨o.slots, k b o (apart n) q⟩
    · intro b o q n _
      rw [upd_ne (apart n), upd_ne (off q)]
      exact n
    · intro b o q _
      by_cases hb : b = a
      · subst hb
        exact ⟨_, hx⟩
      · exact ⟨o, k b o hb q⟩
    · exact fun b xs q => only q exo_tup
    · exact fun b o v q => only q exo_frz
    · exact fun b ps q => ⟨#[], (only q exo_tbl).trans (by simp)⟩
  refine on hp.objs.size _ hnd ne (I.un (t' := tk') step fun b o q => ?_)
  by_cases hb : b = a
  · subst hb
    rw [upd_same] at q
    cases q
    exact exo_ok hx
  rw [upd_ne hb] at q
  by_cases hd2 : b = hp.objs.size
  · subst hd2
    rw [upd_same] at q
    cases q
    exact exd_ok hn (relO_put (fs := []) ry fun _ => True.intro)
  rw [upd_ne hd2] at q
  refine (I.hok b o q).stay (fun c v hc z => ?_) (fun c hc => only hc exo_own) (fun c xs hc => only hc exo_tup)
  have hca : c ≠ a := by
    rcases hc with rfl | hc
    · exact hb
    · exact at_ne e hc exo_own
  exact k c v hca z
end
/-- self.f = e, the first one -/
def tFirst (B newId initId : String) (line : List Value) (K : PySem.W.Frag) (f : Str) (to te : TE) : TS := fun D σ H => te σ H fun y H1 => to σ H1 fun x H2 => ∃ a C : Addr, x = .ref a ∧ Over K B newId initId line C ∧ PySem.W.findIn K (.ref C) f = some none ∧
  H2 a = some (exo a C none) ∧ ∀ dx, H2 dx = none → dx ≠ a → D.nx σ (upd (upd H2 dx (exd dx [(f, y)])) a (exo a C (some dx)))
/-- what such an `__init__` does -/
def sp_first (C : Addr) (f : Str) : Sp := fun vs H Q _ => ∃ (a : Addr) (v : V), vs = [.ref a, v] ∧ H a = some (exo a C none) ∧ ∀ dx, H dx = none → dx ≠ a → Q .non (upd (upd H dx (exd dx [(f, v)])) a (exo a C (some dx)))
/-- C(e): the exception with its field -/
def tMade (C : Addr) (f : Str) (ta : TA) : St → Hp → XK → Prop := fun σ H Q => ta σ H fun vs H1 => ∃ v, vs = [v] ∧ ∀ d, H1 d = none → Q (.ref C) (some d) (upd H1 d (.xd [(f, v)]))
/-- an own exception class x over B with one field f, kept by its `__init__` -/
structure OwnF (P : Program) (w : World) (K : PySem.W.Frag) (mg : Str → Option Value) (base : Heap) (B newId initId : String) (line : List Value) (x f : Str) (C : Addr) : Prop where
  over : Over K B newId initId line C
  gl : mg x = some (.ref C)
  no : PySem.W.findIn K (.ref C) f = some none
  init : ∃ (fI : Addr) (fd : FuncData) (ps : List Str), PySem.W.findIn K (.ref C) "__init__" = some (some (.ref fI)) ∧ PySem.W.typeIn K (.ref fI) = some (.type "function") ∧ FnOk P w K mg base CX0 1 fI fd ps (sp_first C f) ∧ Binds K fd ps []
section
variable {X : Cx} {o e : Expr} {es : List Expr} {to te : TE} {ta : TA} {f : Str} {p p' pos pos' : Pos} {B newId initId : String} {line : List Value}
theorem ps_first (ho : PE X o to) (he : PE X e te) (hs : swapsWith e (some (.Attribute o f p')) pos.line X.env = pure false := by rfl) : PS X (.Assign [.Attribute o f p'] e pos) (tFirst B newId initId line X.K f to te) := by
  constructor
  intro pins s σ H D I h
  refine plainObj_wpAny_Assign_Attribute (thn (he.run pins s σ H _ I h) ?_) hs
  rintro v s1 ⟨y, H1, I1, r1, q1⟩
  refine thn (ho.run pins s1 σ H1 _ I1 q1) ?_
  rintro u s2 ⟨x, H2, I2, r2, a, C, rfl, T, hno, ea, q⟩
  obtain rfl : u = Value.ref a := r2
  exact first_field T I2 ea hno r1 fun dx s' n ne J => ⟨σ, _, J, q dx n ne⟩
theorem pmk_first {C : Addr} {x : Str} {j : Nat} (T : OwnF X.prog X.w X.K X.mg X.base B newId initId line x f C) (hr : Room j X.A) (h2 : 2 ≤ j) (hg : Gl X x) (ha : PA X (e :: es) ta)
    (he : starEach (e :: es) X.env = (false, eval e X.env) :: starEach es X.env := by rfl) (hpl : (backTo pos (starEach es X.env)).any (·.1) = false := by rfl) (hdb : (x == ("__debug__" : Str)) = false := by decide) :
    PMk X (.Call (.Name x p) (e :: es) [] pos) (tMade C f ta) := by
  intro pins s σ H Q I h
  have Z := T.over
  obtain ⟨fI, fd, ps, iC, tI, F1, hb⟩ := T.init
  refine wpAny_Call_Name_kw (ld_glob I hg T.gl ?_ hdb)
  refine PySem.W.callWith_K (h₀ := X.base) I.ok.mod.kin Z.own.2 (thn (ha.run pos pins s σ H _ I h) ?_) he hpl
  rintro us s1 ⟨vs, H1, I1, r1, v, rfl, q1⟩
  refine ⟨I1.kIn, ?_⟩
  show wpAny _ _ (call (.ref C) us) _ _ _
  obtain ⟨v', rfl, rv⟩ : ∃ v', us = [v'] ∧ RelV v v' := by
    cases r1 with
    | cons rv rn =>
      cases rn
      exact ⟨_, rfl, rv⟩
  obtain ⟨nm, N, qn, bs, bm, hdct, sn, sub, ab, col, dd, k0, k1, k2, k3, k5, hC, hT⟩ := PySem.W.excInit_of I1.kIn Z.ini
  obtain ⟨hp, g, dr, tk, os⟩ := s1
  have above : hp.objs.size ≤ hp.objs.size + 1 := Nat.le_succ _
  have hn : H1 (hp.objs.size + 1) = none := I1.hok.fresh above
  have grown : ∀ b o, hp.get? b = some o → ((hp.push (PySem.W.kdv_tup [v'])).push (PySem.HandSPX.excO C hp.objs.size)).get? b = some o := fun b o q => Heap.get?_push_of_some _ (Heap.get?_push_of_some _ q)
  have there : ((hp.push (PySem.W.kdv_tup [v'])).push (PySem.HandSPX.excO C hp.objs.size)).get? (hp.objs.size + 1) = some (PySem.HandSPX.excO C hp.objs.size) := by heap_get
  have I2 := I1.laid (t' := tk) (a := hp.objs.size + 1) (o := exo (hp.objs.size + 1) C none) grown above (exo_ok there)
  have told : sp_first C f [.ref (hp.objs.size + 1), v] (upd H1 (hp.objs.size + 1) (exo (hp.objs.size + 1) C none))
      (fun r H2 => r = .non ∧ ∃ d : Addr, H1 d = none ∧ H2 = upd (upd (upd H1 (hp.objs.size + 1) (exo (hp.objs.size + 1) C none)) d (exd d [(f, v)])) (hp.objs.size + 1) (exo (hp.objs.size + 1) C (some d)) ∧ d ≠ hp.objs.size + 1) (fun _ _ _ => False) :=
    ⟨_, _, rfl, upd_same, fun dx n ne => ⟨rfl, dx, by rwa [upd_ne ne] at n, rfl, ne⟩⟩
  have args : Vals [V.ref (hp.objs.size + 1), v] [Value.ref (hp.objs.size + 1), v'] := .cons rfl (.cons rv .nil)
  have many : [Value.ref (hp.objs.size + 1), v'].length = ps.length := args.length.symm.trans (F1.len _ _ _ _ told)
  have small : [v'].length ≤ sizeLine := by
    rw [sizeLine_eq]
    exact (by decide : 1 ≤ 16777216)
  refine wpAny_call (PySem.HandSPX.call_own Z.fb hT hC (PySem.W.looks_findIn I1.kIn iC) (fun self => PySem.W.bind_fn I1.kIn self tI) small
    (codeAny_mono (F1.run _ X.stack _ _ ⟨[Value.ref (hp.objs.size + 1), v'], []⟩ [Value.ref (hp.objs.size + 1), v'] _ _ (fun _ _ _ => False) ((hr.mono h2).make C [v'] []) (I2.env0.make C [v'] [])
      (by have z := hb _ [Value.ref (hp.objs.size + 1), v'] I2.kIn many; rwa [List.append_nil] at z) args told) ?_))
  rintro (er | fl) s' over
  · exact over.elim
  cases fl
  case ret ru =>
    obtain ⟨r, H2, os2, bare2, un2, hok2, rr, rfl, d, hd1, rfl, hne⟩ := over
    obtain ⟨h2, g2, d2, t2, os'⟩ := s'
    refine ⟨rr, ?_⟩
    have e1 : upd (del (upd (upd (upd H1 (hp.objs.size + 1) (exo (hp.objs.size + 1) C none)) d (exd d [(f, v)])) (hp.objs.size + 1) (exo (hp.objs.size + 1) C (some d))) (hp.objs.size + 1)) d (.xd [(f, v)]) = upd H1 d (.xd [(f, v)]) := by
      funext b
      by_cases hbd : b = d
      · rw [hbd, upd_same, upd_same]
      · rw [upd_ne hbd, upd_ne hbd]
        by_cases hba : b = hp.objs.size + 1
        · rw [hba, del_same, hn]
        · rw [del_ne hba, upd_ne hba, upd_ne hbd, upd_ne hba]
    exact mk_end (raises_own Z.sub Z.ty) I1 above grown un2 hok2 os2 bare2 upd_same ((upd_ne hne).trans upd_same) hd1 (by rw [e1]; exact q1 d hd1)
  all_goals exact over.elim
/-- raise C(e) -/
theorem ps_raiseF {C : Addr} {W : WX} {x : Str} {j : Nat} (T : OwnF X.prog X.w X.K X.mg X.base B newId initId line x f C) (hc : X.calm = true) (tk : Takes X W) (hr : Room j X.A) (h2 : 2 ≤ j) (hg : Gl X x) (ha : PA X [e] ta)
    (hdb : (x == ("__debug__" : Str)) = false := by decide) (he : starEach (e :: []) X.env = (false, eval e X.env) :: starEach [] X.env := by rfl) (hpl : (backTo pos (starEach [] X.env)).any (·.1) = false := by rfl) :
    PS X (.Raise (some (.Call (.Name x p) [e] [] pos)) none pos') (fun _ σ H => tMade C f ta σ H fun cls d H' => W cls d σ H') :=
  ps_raise hc tk (pmk_first T hr h2 hg ha he hpl hdb)
/-- x.f, x an exception that is held -/
def tHeldF (f : Str) (C : Addr) (te : TE) : TE := fun σ H Q => te σ H fun x H1 => ∃ (a d : Addr) (v : V), x = .ref a ∧ H1 a = some (HeldX (.ref C) (some d) a) ∧ H1 d = some (.xd [(f, v)]) ∧ Q v H1
theorem pe_heldF {C : Addr} (T : Over X.K B newId initId line C) (hno : PySem.W.findIn X.K (.ref C) f = some none) (he : PE X e te) (hb : attributeBase e f X.env (eval e X.env) = eval e X.env := by rfl) : PE X (.Attribute e f pos) (tHeldF f C te) := by
  constructor
  intro pins s σ H Q I h
  refine attr_of hb (thn (he.run pins s σ H _ I h) ?_)
  rintro u s1 ⟨x, H1, I1, rx, a, d, v, rfl, ea, ed, q⟩
  obtain rfl : u = Value.ref a := rx
  obtain ⟨⟨⟨oc, od, data, sl⟩, parts, there, ⟨zc, zd⟩, hdat⟩, _, _⟩ := I1.hok a _ ea
  dsimp only at zc zd hdat
  subst zc zd hdat
  obtain ⟨mA, hns, rel⟩ : ObjOk X.prog X.w H1 s1.heap d (.xd [(f, v)]) := I1.hok d _ ed
  obtain ⟨ob, hob, look⟩ := lookIn_ns hns
  have l : List.lookup f [(f, v)] = some v := by simp [List.lookup]
  obtain ⟨u, hu, ru⟩ := RelO.some_of (v := v) (o := mA f) (by rw [← l]; exact rel f)
  have at_a : PySem.W.InstAt s1.heap a _ C (some ob) := ⟨there, rfl, rfl, hob⟩
  exact HandSPX.exc_get I1.kIn at_a T.slots.2.1 T.slots.2.2 T.sub (PySem.W.findObj_own T.own.1 hno rfl (by rw [look, hu])) (handed_of ru) ⟨v, H1, I1.tok _, ru, q⟩
end
end L2
namespace L2
open PySem PySem.Spec PyProof.Rows
/-! ### isinstance of an exception that is held with its dict -/
theorem kit_heldD {K : PySem.W.Frag} {C a : Addr} {ob : Obj} {od : Option Obj} (E : ExcC K C) : PySem.W.KitX K (.ref a) (.ref C) (fun h => PySem.W.InstAt h a ob C od) := by
  have known : (PySem.W.clsIn K C).isSome = true := by
    obtain ⟨cd, e, _⟩ := PySem.W.any_some E.hd
    rw [e]
    rfl
  exact PySem.W.kitx_exc known E.hg E.hk E.hs E.ha E.hn E.ht E.hm
/-- the held exception at a, with its dict at d -/
theorem held_at {X : Cx} {pins : List (Addr × Obj)} {σ : St} {H : Hp} {s : Shared} {a d C : Addr} {fs : List (Str × V)} (I : Inv X pins σ H s) (ea : H a = some (HeldX (.ref C) (some d) a)) (ed : H d = some (.xd fs)) : ∃ ob od, PySem.W.InstAt s.heap a ob C (some od) := by
  obtain ⟨⟨⟨oc, ot, data, sl⟩, parts, there, ⟨zc, zd⟩, hdat⟩, _, _⟩ := I.hok a _ ea
  dsimp only at zc zd hdat
  subst zc zd hdat
  obtain ⟨mA, hns, _⟩ : ObjOk X.prog X.w H s.heap d (.xd fs) := I.hok d _ ed
  obtain ⟨od, hod, _⟩ := lookIn_ns hns
  exact ⟨_, od, there, rfl, rfl, hod⟩
def rIsD (K : PySem.W.Frag) (C : Addr) : List V → Hp → VK → Prop := fun given H Q => ∃ (a d : Addr) (fs : List (Str × V)) (k : V) (kv : Value) (yes : Bool), given = [.ref a, k] ∧ H a = some (HeldX (.ref C) (some d) a) ∧ H d = some (.xd fs) ∧ (∀ u, RelV k u → u = kv) ∧ PySem.W.kitOne K (.ref C) kv = some yes ∧ Q (.bl yes) H
theorem call_isD {X : Cx} {C : Addr} (E : ExcC X.K C) : CallR X (.builtin "isinstance") (rIsD X.K C) := by
  rintro pins s σ H given us Q I r ⟨a, d, fs, k, kv, yes, rfl, ea, ed, is, kit, told⟩
  obtain ⟨u1, u2, rfl, r1, r2⟩ := vals2 r
  cases r1
  obtain rfl := is u2 r2
  obtain ⟨ob, od, inst⟩ := held_at I ea ed
  exact PySem.W.kia_one (kit_heldD E) I.kIn inst kit (fun z => nomatch z) fun tk => ⟨.bl yes, H, I.kept (t' := tk) fun _ _ z => z, rfl, told⟩
def rIsTD (K : PySem.W.Frag) (C : Addr) : List V → Hp → VK → Prop := fun given H Q => ∃ (a d tp : Addr) (fs : List (Str × V)) (ks : List V) (kvs : List Value) (yes : Bool), given = [.ref a, .ref tp] ∧ H a = some (HeldX (.ref C) (some d) a) ∧ H d = some (.xd fs) ∧ SqT K H tp ks ∧ (∀ us, Vals ks us → us = kvs) ∧ PySem.W.kitAny K (.ref C) kvs = some yes ∧ Q (.bl yes) H
theorem call_isTD {X : Cx} {C : Addr} (E : ExcC X.K C) : CallR X (.builtin "isinstance") (rIsTD X.K C) := by
  rintro pins s σ H given us Q I r ⟨a, d, tp, fs, ks, kvs, yes, rfl, ea, ed, hT, is, kit, told⟩
  obtain ⟨v1, v2, rfl, r1, r2⟩ := vals2 r
  cases r1
  cases r2
  obtain ⟨items, rel, ⟨⟨tc, td, tdata, tsl⟩, e2, tcls, n, tseq⟩, _⟩ := I.tuple hT
  obtain rfl := is items rel
  dsimp only at tcls tseq
  subst tcls tseq
  obtain ⟨ob, od, inst⟩ := held_at I ea ed
  exact PySem.W.kia_tup (kit_heldD E) I.kIn inst e2 kit (fun z => nomatch z) fun tk => ⟨.bl yes, H, I.kept (t' := tk) fun _ _ z => z, rfl, told⟩
end L2
namespace DR
open PySem PySem.Spec PyProof.Rows L2
/-- the class TooLong -/
abbrev LimF (P : Program) (w : World) (K : PySem.W.Frag) (mg : Str → Option Value) (base : Heap) (C : Addr) : Prop := OwnF P w K mg base "ArithmeticError" "ArithmeticError.__new__" "ArithmeticError.__init__" [.type "ArithmeticError", .type "Exception", .type "BaseException", .type "object"] "TooLong" "limit" C
/-- what isinstance says of a TooLong -/
structure IsL (K : PySem.W.Frag) (mg : Str → Option Value) (C CD : Addr) : Prop where
  ae : mg "ArithmeticError" = none
  le : mg "LookupError" = none
  ve : mg "ValueError" = none
  tz : mg "DivisionByZero" = some (.ref CD)
  k1 : PySem.W.kitOne K (.ref C) (.type "ArithmeticError") = some true
  k2 : PySem.W.kitAny K (.ref C) [.ref CD, .type "LookupError", .type "ValueError"] = some false
  ec : ExcC K C
  em : PySem.W.exmOne K (.ref C) (.ref C) = some true
end DR
/-! ### programs -/
namespace DR
open PySem PySem.Spec PyProof.Rows L2
inductive Ins where
  | step (c : Int)
  | turn (c : Int)
  | rep (n : Int) (b : List Ins)
mutual
def shI : Ins → Int
  | .step c => c
  | .turn _ => 0
  | .rep n b => n * shP b
def shP : List Ins → Int
  | [] => 0
  | i :: r => shI i + shP r
end
mutual
def exI : Ins → Int
  | .step _ => 1
  | .turn _ => 1
  | .rep n b => n * exP b
def exP : List Ins → Int
  | [] => 0
  | i :: r => exI i + exP r
end
mutual
def dpI : Ins → Nat
  | .step _ => 0
  | .turn _ => 0
  | .rep _ b => dpP b + 1
def dpP : List Ins → Nat
  | [] => 0
  | i :: r => max (dpI i) (dpP r)
end
/-! how many instructions, inner ones too -/
mutual
def cnI : Ins → Nat
  | .step _ => 1
  | .turn _ => 1
  | .rep _ b => cnP b + 1
def cnP : List Ins → Nat
  | [] => 0
  | i :: r => cnI i + cnP r
end
/-! counts within 2 ^ 100, bodies of at most 1024 instructions -/
mutual
def WI : Ins → Prop
  | .step c => c.natAbs ≤ 2 ^ 100
  | .turn c => c.natAbs ≤ 2 ^ 100
  | .rep n b => n.natAbs ≤ 2 ^ 100 ∧ b.length ≤ 1024 ∧ WP b
def WP : List Ins → Prop
  | [] => True
  | i :: r => WI i ∧ WP r
end
theorem shP_nil : shP [] = 0 := by unfold shP; rfl
theorem shP_cons (i : Ins) (r : List Ins) : shP (i :: r) = shI i + shP r := by rw [shP]
theorem exP_nil : exP [] = 0 := by unfold exP; rfl
theorem exP_cons (i : Ins) (r : List Ins) : exP (i :: r) = exI i + exP r := by rw [exP]
theorem shP_app : ∀ (a b : List Ins), shP (a ++ b) = shP a + shP b
  | [], b => by rw [List.nil_append, shP_nil, Int.zero_add]
  | i :: r, b => by rw [List.cons_append, shP_cons, shP_cons, shP_app r b, Int.add_assoc]
theorem exP_app : ∀ (a b : List Ins), exP (a ++ b) = exP a + exP b
  | [], b => by rw [List.nil_append, exP_nil, Int.zero_add]
  | i :: r, b => by rw [List.cons_append, exP_cons, exP_cons, exP_app r b, Int.add_assoc]
theorem dpP_cons (i : Ins) (r : List Ins) : dpP (i :: r) = max (dpI i) (dpP r) := by rw [dpP]
theorem dpP_app : ∀ (a b : List Ins), dpP (a ++ b) = max (dpP a) (dpP b)
  | [], b => by
    rw [List.nil_append, show dpP [] = 0 by unfold dpP; rfl]
    omega
  | i :: r, b => by
    rw [List.cons_append, dpP_cons, dpP_cons, dpP_app r b]
    omega
theorem cnP_cons (i : Ins) (r : List Ins) : cnP (i :: r) = cnI i + cnP r := by rw [cnP]
theorem cnP_app : ∀ (a b : List Ins), cnP (a ++ b) = cnP a + cnP b
  | [], b => by
    rw [List.nil_append, show cnP [] = 0 by unfold cnP; rfl]
    omega
  | i :: r, b => by
    rw [List.cons_append, cnP_cons, cnP_cons, cnP_app r b]
    omega
theorem WP_cons (i : Ins) (r : List Ins) : WP (i :: r) = (WI i ∧ WP r) := by rw [WP]
theorem WP_app : ∀ (a b : List Ins), WP a → WP b → WP (a ++ b)
  | [], b, _, h => h
  | i :: r, b, h, h2 => by
    rw [List.cons_append, WP_cons]
    rw [WP_cons] at h
    exact ⟨h.1, WP_app r b h.2 h2⟩
theorem dpP_mem : ∀ {b : List Ins} {i : Ins}, i ∈ b → dpI i ≤ dpP b
  | [], _, h => absurd h List.not_mem_nil
  | j :: r, i, h => by
    rw [dpP_cons]
    rcases List.mem_cons.mp h with e | e
    · rw [e]; omega
    · have := dpP_mem e; omega
theorem WP_mem : ∀ {b : List Ins} {i : Ins}, WP b → i ∈ b → WI i
  | [], _, _, h => absurd h List.not_mem_nil
  | j :: r, i, w, h => by
    rw [WP_cons] at w
    rcases List.mem_cons.mp h with e | e
    · rw [e]; exact w.1
    · exact WP_mem w.2 e
theorem cnP_mem : ∀ {b : List Ins} {i : Ins}, i ∈ b → cnI i ≤ cnP b
  | [], _, h => absurd h List.not_mem_nil
  | j :: r, i, h => by
    rw [cnP_cons]
    rcases List.mem_cons.mp h with e | e
    · rw [e]; omega
    · have := cnP_mem e; omega
theorem cnI_pos (i : Ins) : 0 < cnI i := by
  cases i <;> unfold cnI <;> omega
theorem len_cnP : ∀ b : List Ins, b.length ≤ cnP b
  | [] => Nat.zero_le _
  | i :: r => by
    have := len_cnP r
    have := cnI_pos i
    rw [cnP_cons, List.length_cons]
    omega
/-- how large shifts and executed counts grow -/
theorem bigs (f : Ins → Int) (g : List Ins → Int) (h0 : g [] = 0) (hc : ∀ i r, g (i :: r) = f i + g r) (M : Nat) : ∀ (b : List Ins), (∀ i ∈ b, (f i).natAbs ≤ M) → (g b).natAbs ≤ M * b.length
  | [], _ => by rw [h0]; exact Nat.zero_le _
  | i :: r, h => by
    have h1 := h i List.mem_cons_self
    have h2 := bigs f g h0 hc M r fun j hj => h j (List.mem_cons_of_mem _ hj)
    rw [hc, List.length_cons, Nat.mul_add, Nat.mul_one]
    omega
theorem pow_le2 {a b : Nat} (h : a ≤ b) : 2 ^ a ≤ 2 ^ b := Nat.pow_le_pow_right (by decide) h
theorem sh_big : ∀ (k : Nat) (b : List Ins), dpP b ≤ k → WP b → b.length ≤ 1024 → (shP b).natAbs ≤ 2 ^ (110 * (k + 1))
  | k, b, hd, hw, hl => by
    have hI : ∀ i ∈ b, (shI i).natAbs ≤ 2 ^ (110 * k + 100) := fun i hi => by
      have wi := WP_mem hw hi
      have di := Nat.le_trans (dpP_mem hi) hd
      cases i with
      | step c =>
        rw [shI]
        rw [WI] at wi
        exact Nat.le_trans wi (pow_le2 (by omega))
      | turn c =>
        rw [shI]
        exact Nat.zero_le _
      | rep n bb =>
        rw [shI]
        rw [WI] at wi
        rw [dpI] at di
        have := sh_big (k - 1) bb (by omega) wi.2.2 wi.2.1
        rw [Int.natAbs_mul]
        have e : 110 * (k - 1 + 1) = 110 * k := by omega
        rw [e] at this
        have h3 := Nat.mul_le_mul wi.1 this
        rw [← Nat.pow_add] at h3
        rw [Nat.add_comm]
        exact h3
    have h := bigs shI shP shP_nil shP_cons _ b hI
    have h2 : 2 ^ (110 * k + 100) * b.length ≤ 2 ^ (110 * k + 100) * 2 ^ 10 := Nat.mul_le_mul_left _ hl
    rw [← Nat.pow_add] at h2
    exact Nat.le_trans h h2
termination_by k => k
decreasing_by
  rw [dpI] at di
  omega
theorem ex_big : ∀ (k : Nat) (b : List Ins), dpP b ≤ k → WP b → b.length ≤ 1024 → (exP b).natAbs ≤ 2 ^ (110 * (k + 1))
  | k, b, hd, hw, hl => by
    have hI : ∀ i ∈ b, (exI i).natAbs ≤ 2 ^ (110 * k + 100) := fun i hi => by
      have wi := WP_mem hw hi
      have di := Nat.le_trans (dpP_mem hi) hd
      cases i with
      | step c =>
        rw [exI]
        exact Nat.le_trans (show 1 ≤ 2 ^ 0 by decide) (pow_le2 (by omega))
      | turn c =>
        rw [exI]
        exact Nat.le_trans (show 1 ≤ 2 ^ 0 by decide) (pow_le2 (by omega))
      | rep n bb =>
        rw [exI]
        rw [WI] at wi
        rw [dpI] at di
        have := ex_big (k - 1) bb (by omega) wi.2.2 wi.2.1
        rw [Int.natAbs_mul]
        have e : 110 * (k - 1 + 1) = 110 * k := by omega
        rw [e] at this
        have h3 := Nat.mul_le_mul wi.1 this
        rw [← Nat.pow_add] at h3
        rw [Nat.add_comm]
        exact h3
    have h := bigs exI exP exP_nil exP_cons _ b hI
    have h2 : 2 ^ (110 * k + 100) * b.length ≤ 2 ^ (110 * k + 100) * 2 ^ 10 := Nat.mul_le_mul_left _ hl
    rw [← Nat.pow_add] at h2
    exact Nat.le_trans h h2
termination_by k => k
decreasing_by
  rw [dpI] at di
  omega
/-! ### as data -/
mutual
inductive IsI : PyData → Ins → Prop
  | step (c : Int) : IsI (.tuple [.str "step", .int c]) (.step c)
  | turn (c : Int) : IsI (.tuple [.str "turn", .int c]) (.turn c)
  | rep {d : PyData} {b : List Ins} (n : Int) : IsP d b → IsI (.tuple [.str "repeat", .int n, d]) (.rep n b)
inductive IsP : PyData → List Ins → Prop
  | lst {ds : List PyData} {b : List Ins} : IsAll ds b → IsP (.list ds) b
  | tup {ds : List PyData} {b : List Ins} : IsAll ds b → IsP (.tuple ds) b
inductive IsAll : List PyData → List Ins → Prop
  | nil : IsAll [] []
  | cons {d : PyData} {i : Ins} {ds : List PyData} {b : List Ins} : IsI d i → IsAll ds b → IsAll (d :: ds) (i :: b)
end
theorem IsAll.len : ∀ {ds : List PyData} {b : List Ins}, IsAll ds b → ds.length = b.length
  | _, _, .nil => rfl
  | _, _, .cons _ t => by rw [List.length_cons, List.length_cons, IsAll.len t]
theorem IsAll.get : ∀ {ds : List PyData} {b : List Ins} {j : Nat} {d : PyData}, IsAll ds b → ds[j]? = some d → ∃ i, b[j]? = some i ∧ IsI d i
  | _, _, _, _, .nil, e => by simp at e
  | _, _, 0, _, .cons h _, e => by
    simp at e
    subst e
    exact ⟨_, rfl, h⟩
  | _, _, j + 1, d, .cons _ t, e => by
    obtain ⟨i, h1, h2⟩ := IsAll.get (j := j) (d := d) t (by simpa using e)
    exact ⟨i, by simpa using h1, h2⟩
theorem IsAll.app : ∀ {ds es : List PyData} {a b : List Ins}, IsAll ds a → IsAll es b → IsAll (ds ++ es) (a ++ b)
  | _, _, _, _, .nil, h => h
  | _, _, _, _, .cons h t, h2 => .cons h (IsAll.app t h2)
/-! shown -/
mutual
theorem isI_fits : ∀ {d : PyData} {i : Ins}, IsI d i → WI i → Fits (150 * cnI i - 2) (2 * dpI i + 1) d
  | _, _, .step c, w => by
    rw [WI] at w
    have h := fits_2 (n := 10) (k := 0) (d := .str "step") ⟨by decide +kernel, by decide +kernel, by decide +kernel, by decide +kernel⟩ (fits_int (i := c) (Nat.lt_of_le_of_lt w (by decide +kernel)))
    refine h.up ?_ ?_
    · rw [cnI]; decide
    · rw [dpI]; decide
  | _, _, .turn c, w => by
    rw [WI] at w
    have h := fits_2 (n := 10) (k := 0) (d := .str "turn") ⟨by decide +kernel, by decide +kernel, by decide +kernel, by decide +kernel⟩ (fits_int (i := c) (Nat.lt_of_le_of_lt w (by decide +kernel)))
    refine h.up ?_ ?_
    · rw [cnI]; decide
    · rw [dpI]; decide
  | _, _, .rep (d := d) (b := b) n hp, w => by
    rw [WI] at w
    have h := fits_3 (n := 10) (k := 0) (d := .str "repeat") ⟨by decide +kernel, by decide +kernel, by decide +kernel, by decide +kernel⟩ (fits_int (i := n) (Nat.lt_of_le_of_lt w.1 (by decide +kernel))) (isP_fits hp w.2.2)
    refine h.up ?_ ?_
    · rw [cnI]; omega
    · rw [dpI]; omega
theorem isP_fits : ∀ {d : PyData} {b : List Ins}, IsP d b → WP b → Fits (150 * cnP b + 5) (2 * dpP b + 2) d
  | _, _, .lst (ds := ds) h, w => by
    obtain ⟨a1, a2, a3, a4, a5⟩ := isAll_fits h w
    refine ⟨a1, a2, ?_, ?_⟩
    · show PyData.depthAll ds + 1 ≤ _
      omega
    · show (listText (PyData.shownAll ds)).length ≤ _
      have := listText_len_le (PyData.shownAll ds)
      omega
  | _, _, .tup (ds := ds) h, w => by
    obtain ⟨a1, a2, a3, a4, a5⟩ := isAll_fits h w
    refine ⟨a1, a2, ?_, ?_⟩
    · show PyData.depthAll ds + 1 ≤ _
      omega
    · show (tupleText (PyData.shownAll ds)).length ≤ _
      have := tupleText_len_le (PyData.shownAll ds)
      omega
theorem isAll_fits : ∀ {ds : List PyData} {b : List Ins}, IsAll ds b → WP b → PyData.showableAll ds = true ∧ PyData.hasDictAll ds = false ∧ PyData.depthAll ds ≤ 2 * dpP b + 1 ∧ ((PyData.shownAll ds).map (·.length)).sum + 2 * (PyData.shownAll ds).length ≤ 150 * cnP b ∧ (PyData.shownAll ds).length = b.length
  | _, _, .nil, _ => ⟨rfl, rfl, Nat.zero_le _, Nat.le_refl _, rfl⟩
  | _, _, .cons (d := d) (i := i) (ds := ds) (b := b) h t, w => by
    rw [WP_cons] at w
    obtain ⟨a1, a2, a3, a4, a5⟩ := isAll_fits t w.2
    obtain ⟨b1, b2, b3, b4⟩ := isI_fits h w.1
    refine ⟨?_, ?_, ?_, ?_, ?_⟩
    · show (d.showable && PyData.showableAll ds) = true
      rw [a1, b1]
      rfl
    · show (d.hasDict || PyData.hasDictAll ds) = false
      rw [a2, b2]
      rfl
    · show max d.depth (PyData.depthAll ds) ≤ _
      rw [dpP_cons]
      omega
    · show (d.shown.length :: ((PyData.shownAll ds).map (·.length))).sum + 2 * ((PyData.shownAll ds).length + 1) ≤ _
      have := cnI_pos i
      rw [List.sum_cons, cnP_cons]
      omega
    · show (PyData.shownAll ds).length + 1 = _
      rw [a5, List.length_cons]
end
end DR
namespace DR
open PySem PySem.Spec PyProof.Rows L2
theorem iteS {c A B : Prop} [Decidable c] (hc : c) (h : A) : if decide c = true then A else B := by
  rw [if_pos (decide_eq_true hc)]
  exact h
theorem iteN {c A B : Prop} [Decidable c] (hc : ¬ c) (h : B) : if decide c = true then A else B := by
  rw [if_neg (by rw [decide_eq_false hc]; exact Bool.false_ne_true)]
  exact h
theorem iteNN {c A B : Prop} [Decidable c] (hc : ¬ c) (h : A) : if (!decide c) = true then A else B := by
  rw [if_pos (by rw [decide_eq_false hc]; rfl)]
  exact h
theorem v_ts : ¬ (V.str "turn" = V.str "step") := by decide +kernel
theorem v_rs : ¬ (V.str "repeat" = V.str "step") := by decide +kernel
theorem v_sr : ¬ (V.str "step" = V.str "repeat") := by decide +kernel
theorem v_tr : ¬ (V.str "turn" = V.str "repeat") := by decide +kernel
theorem v_rt : ¬ (V.str "repeat" = V.str "turn") := by decide +kernel
theorem v_st : ¬ (V.str "step" = V.str "turn") := by decide +kernel
/-! ### a def that calls itself: a level for each depth -/
theorem cal_rec {P : Program} {w : World} {K : PySem.W.Frag} {mg : Str → Option Value} {base : Heap} {x : Str} {st : Stmt} {ps : List Str} (c : Nat) {sp : Nat → Sp} (D : Df K mg x st)
    (b : ∀ (kV doc pm : Value) (an : Option Addr) (cdv ct : Value) (us : List Value), us.length = ps.length → bindArgs (PySem.W.fnOf x x (defArgs st) (defBody st) (defScope st) .none kV doc pm an cdv ct) ⟨us, []⟩ = pure (ps.zip us))
    (h0 : ∀ vs H Q E, ¬ sp 0 vs H Q E)
    (step : ∀ k, Cal P w K mg base (k + c) x (sp k) → ∀ f fd, Fun K x x st f fd → FnOk P w K mg base CX0 (k + c + 1) f fd ps (sp (k + 1))) : ∀ k, Cal P w K mg base (k + c) x (sp k)
  | 0 => by
    obtain ⟨f, fd, F, hm, kp⟩ := D.ex
    exact ⟨f, fd, ps, ⟨fun vs H Q E h => absurd h (h0 vs H Q E), fun A outer s H args us vs Q E _ _ _ _ h => absurd h (h0 vs H Q E)⟩, hm, kp, F.binds b⟩
  | k + 1 => by
    obtain ⟨f, fd, F, hm, kp⟩ := D.ex
    have := step k (cal_rec c D b h0 step k) f fd F
    exact ⟨f, fd, ps, (show k + c + 1 = k + 1 + c by omega) ▸ this, hm, kp, F.binds b⟩
/-! ### programs in the heap -/
def PV (K : PySem.W.Frag) (H : Hp) (v : V) (b : List Ins) : Prop := ∃ d, Dp K H v d ∧ IsP d b
def IV (K : PySem.W.Frag) (H : Hp) (v : V) (i : Ins) : Prop := ∃ d, Dp K H v d ∧ IsI d i
abbrev IVs (K : PySem.W.Frag) (H : Hp) : List V → List Ins → Prop := Paired (IV K H)
section
variable {K : PySem.W.Frag} {H H' : Hp} {v x : V} {b : List Ins} {i : Ins} {xs : List V}
theorem PV.same (e : Same H H') (h : PV K H v b) : PV K H' v b := h.elim fun d z => ⟨d, Dp.same e z.1, z.2⟩
theorem IV.same (e : Same H H') (h : IV K H v i) : IV K H' v i := h.elim fun d z => ⟨d, Dp.same e z.1, z.2⟩
theorem PV.kp {p c : Addr} {n : Nat} (pen : PenAt H p c n) (k : Kp p H H') (h : PV K H v b) : PV K H' v b := h.elim fun d z => ⟨d, Dp.kp pen k z.1, z.2⟩
theorem IV.kp {p c : Addr} {n : Nat} (pen : PenAt H p c n) (k : Kp p H H') (h : IV K H v i) : IV K H' v i := h.elim fun d z => ⟨d, Dp.kp pen k z.1, z.2⟩
theorem IVs.same (e : Same H H') : ∀ {xs : List V} {b : List Ins}, IVs K H xs b → IVs K H' xs b
  | _, _, .nil => .nil
  | _, _, .cons r q => .cons (r.same e) (IVs.same e q)
theorem IVs.kp {p c : Addr} {n : Nat} (pen : PenAt H p c n) (k : Kp p H H') : ∀ {xs : List V} {b : List Ins}, IVs K H xs b → IVs K H' xs b
  | _, _, .nil => .nil
  | _, _, .cons r q => .cons (r.kp pen k) (IVs.kp pen k q)
theorem IVs.len (h : IVs K H xs b) : xs.length = b.length := Paired.length h
theorem IVs.get : ∀ {xs : List V} {b : List Ins} {j : Nat} {x : V}, IVs K H xs b → xs[j]? = some x → ∃ i, b[j]? = some i ∧ IV K H x i
  | _, _, _, _, .nil, e => by simp at e
  | _, _, 0, _, .cons r _, e => by
    simp at e
    subst e
    exact ⟨_, rfl, r⟩
  | _, _, j + 1, x, .cons _ q, e => by
    obtain ⟨t, h1, h2⟩ := IVs.get (j := j) (x := x) q (by simpa using e)
    exact ⟨t, by simpa using h1, h2⟩
theorem IVs.app : ∀ {xs ys : List V} {b c : List Ins}, IVs K H xs b → IVs K H ys c → IVs K H (xs ++ ys) (b ++ c)
  | _, _, _, _, .nil, h => h
  | _, _, _, _, .cons r q, h => .cons r (IVs.app q h)
theorem IVs.take : ∀ {xs : List V} {b : List Ins} (n : Nat), IVs K H xs b → IVs K H (xs.take n) (b.take n)
  | _, _, 0, _ => .nil
  | _, _, n + 1, .nil => .nil
  | _, _, n + 1, .cons r q => .cons r (IVs.take n q)
theorem IVs.drop : ∀ {xs : List V} {b : List Ins} (n : Nat), IVs K H xs b → IVs K H (xs.drop n) (b.drop n)
  | _, _, 0, h => h
  | _, _, n + 1, .nil => .nil
  | _, _, n + 1, .cons r q => IVs.drop n q
theorem IVs.all : ∀ {xs : List V} {b : List Ins}, IVs K H xs b → ∃ ds, DpAll K H xs ds ∧ IsAll ds b
  | _, _, .nil => ⟨[], .nil, .nil⟩
  | _, _, .cons ⟨d, h1, h2⟩ q => by
    obtain ⟨ds, a1, a2⟩ := IVs.all q
    exact ⟨d :: ds, .cons h1 a1, .cons h2 a2⟩
theorem ivs_of : ∀ {xs : List V} {ds : List PyData} {b : List Ins}, DpAll K H xs ds → IsAll ds b → IVs K H xs b
  | _, _, _, .nil, .nil => .nil
  | _, _, _, .cons h t, .cons h2 t2 => .cons ⟨_, h, h2⟩ (ivs_of t t2)
theorem pv_list {a : Addr} (h : SqL K H a xs) (hI : IVs K H xs b) : PV K H (.ref a) b := by
  obtain ⟨ds, a1, a2⟩ := hI.all
  exact ⟨_, .lst h a1, .lst a2⟩
theorem pv_tup {a : Addr} (h : SqT K H a xs) (hI : IVs K H xs b) : PV K H (.ref a) b := by
  obtain ⟨ds, a1, a2⟩ := hI.all
  exact ⟨_, .tup h a1, .tup a2⟩
theorem PV.inv (h : PV K H v b) : ∃ a xs, v = .ref a ∧ (SqL K H a xs ∨ SqT K H a xs) ∧ IVs K H xs b := by
  obtain ⟨d, hd, hp⟩ := h
  cases hp with
  | lst ha =>
    cases hd with
    | lst hs hall => exact ⟨_, _, rfl, .inl hs, ivs_of hall ha⟩
  | tup ha =>
    cases hd with
    | tup hs hall => exact ⟨_, _, rfl, .inr hs, ivs_of hall ha⟩
theorem IV.inv (h : IV K H x i) : (∃ a c, x = .ref a ∧ SqT K H a [.str "step", .int c] ∧ i = .step c) ∨ (∃ a c, x = .ref a ∧ SqT K H a [.str "turn", .int c] ∧ i = .turn c) ∨
    ∃ a n y bb, x = .ref a ∧ SqT K H a [.str "repeat", .int n, y] ∧ PV K H y bb ∧ i = .rep n bb := by
  obtain ⟨d, hd, hi⟩ := h
  cases hi with
  | step c =>
    obtain ⟨a, xs, rfl, hs, hall⟩ := Dp.tup_inv hd
    cases hall with
    | cons h1 t =>
      cases t with
      | cons h2 t2 =>
        cases t2
        cases h1
        cases h2
        exact .inl ⟨a, c, rfl, hs, rfl⟩
  | turn c =>
    obtain ⟨a, xs, rfl, hs, hall⟩ := Dp.tup_inv hd
    cases hall with
    | cons h1 t =>
      cases t with
      | cons h2 t2 =>
        cases t2
        cases h1
        cases h2
        exact .inr (.inl ⟨a, c, rfl, hs, rfl⟩)
  | rep n hp =>
    obtain ⟨a, xs, rfl, hs, hall⟩ := Dp.tup_inv hd
    cases hall with
    | cons h1 t =>
      cases t with
      | cons h2 t2 =>
        cases t2 with
        | cons h3 t3 =>
          cases t3
          cases h1
          cases h2
          exact .inr (.inr ⟨a, n, _, _, rfl, hs, ⟨_, h3, hp⟩, rfl⟩)
theorem iv_step {a : Addr} {c : Int} (h : SqT K H a [.str "step", .int c]) : IV K H (.ref a) (.step c) := ⟨_, .tup h (.cons (.str _) (.cons (.int _) .nil)), .step c⟩
theorem iv_turn {a : Addr} {c : Int} (h : SqT K H a [.str "turn", .int c]) : IV K H (.ref a) (.turn c) := ⟨_, .tup h (.cons (.str _) (.cons (.int _) .nil)), .turn c⟩
theorem iv_rep {a : Addr} {n : Int} {y : V} {bb : List Ins} (h : SqT K H a [.str "repeat", .int n, y]) (hp : PV K H y bb) : IV K H (.ref a) (.rep n bb) := by
  obtain ⟨d, hd, hp⟩ := hp
  exact ⟨_, .tup h (.cons (.str _) (.cons (.int _) (.cons hd .nil))), .rep n hp⟩
end
/-! flat instructions: steps and turns alone; they stay while tuples stay -/
def FI (K : PySem.W.Frag) (H : Hp) (x : V) (i : Ins) : Prop := (∃ a c, x = .ref a ∧ SqT K H a [.str "step", .int c] ∧ i = .step c) ∨ (∃ a c, x = .ref a ∧ SqT K H a [.str "turn", .int c] ∧ i = .turn c)
abbrev FIs (K : PySem.W.Frag) (H : Hp) : List V → List Ins → Prop := Paired (FI K H)
section
variable {K : PySem.W.Frag} {H H' : Hp} {v x : V} {b : List Ins} {i : Ins} {xs : List V}
theorem FI.tp (t : Tp H H') (h : FI K H x i) : FI K H' x i := by
  rcases h with ⟨a, c, e, hs, ei⟩ | ⟨a, c, e, hs, ei⟩
  · exact .inl ⟨a, c, e, tp_t t hs, ei⟩
  · exact .inr ⟨a, c, e, tp_t t hs, ei⟩
theorem FI.iv (h : FI K H x i) : IV K H x i := by
  rcases h with ⟨a, c, rfl, hs, rfl⟩ | ⟨a, c, rfl, hs, rfl⟩
  · exact iv_step hs
  · exact iv_turn hs
theorem FIs.tp (t : Tp H H') : ∀ {xs : List V} {b : List Ins}, FIs K H xs b → FIs K H' xs b
  | _, _, .nil => .nil
  | _, _, .cons r q => .cons (r.tp t) (FIs.tp t q)
theorem FIs.ivs : ∀ {xs : List V} {b : List Ins}, FIs K H xs b → IVs K H xs b
  | _, _, .nil => .nil
  | _, _, .cons r q => .cons r.iv (FIs.ivs q)
theorem FIs.snoc : ∀ {xs : List V} {b : List Ins}, FIs K H xs b → FI K H x i → FIs K H (xs ++ [x]) (b ++ [i])
  | _, _, .nil, h => .cons h .nil
  | _, _, .cons r q, h => .cons r (FIs.snoc q h)
theorem FIs.len (h : FIs K H xs b) : xs.length = b.length := Paired.length h
end
def isFlat : Ins → Prop
  | .rep _ _ => False
  | _ => True
def cntOf : Ins → Int
  | .step c => c
  | .turn c => c
  | .rep n _ => n
/-- a body of steps and turns: so many, with counts within reach -/
structure Flat (b : List Ins) (N : Nat) (R : Nat) : Prop where
  len : b.length ≤ N
  flat : ∀ i ∈ b, isFlat i
  cnt : ∀ i ∈ b, (cntOf i).natAbs ≤ R
theorem Flat.dp : ∀ {b : List Ins} {N R : Nat}, Flat b N R → dpP b = 0
  | [], _, _, _ => by unfold dpP; rfl
  | i :: r, N, R, h => by
    have h1 := h.flat i List.mem_cons_self
    have h2 : dpI i = 0 := by cases i <;> first | exact absurd h1 id | (rw [dpI])
    rw [dpP_cons, h2, Flat.dp (b := r) (N := N) (R := R) ⟨by have := h.len; rw [List.length_cons] at this; omega, fun j hj => h.flat j (List.mem_cons_of_mem _ hj), fun j hj => h.cnt j (List.mem_cons_of_mem _ hj)⟩]
    rfl
theorem Flat.w : ∀ {b : List Ins} {N R : Nat}, Flat b N R → R ≤ 2 ^ 100 → WP b
  | [], _, _, _, _ => by rw [WP]; trivial
  | i :: r, N, R, h, hR => by
    have h1 := h.flat i List.mem_cons_self
    have h3 := h.cnt i List.mem_cons_self
    rw [WP_cons]
    refine ⟨?_, Flat.w (b := r) (N := N) (R := R) ⟨by have := h.len; rw [List.length_cons] at this; omega, fun j hj => h.flat j (List.mem_cons_of_mem _ hj), fun j hj => h.cnt j (List.mem_cons_of_mem _ hj)⟩ hR⟩
    cases i with
    | step c => rw [WI]; exact Nat.le_trans h3 hR
    | turn c => rw [WI]; exact Nat.le_trans h3 hR
    | rep n b => exact absurd h1 id
theorem Flat.cn : ∀ {b : List Ins} {N R : Nat}, Flat b N R → cnP b = b.length
  | [], _, _, _ => by unfold cnP; rfl
  | i :: r, N, R, h => by
    have h1 := h.flat i List.mem_cons_self
    have h2 : cnI i = 1 := by cases i <;> first | exact absurd h1 id | (rw [cnI])
    rw [cnP_cons, h2, Flat.cn (b := r) (N := N) (R := R) ⟨by have := h.len; rw [List.length_cons] at this; omega, fun j hj => h.flat j (List.mem_cons_of_mem _ hj), fun j hj => h.cnt j (List.mem_cons_of_mem _ hj)⟩, List.length_cons]
    omega
/-- a program of the laws: depth, counts, how many instructions -/
structure PrOk (b : List Ins) (k N : Nat) : Prop where
  dp : dpP b ≤ k
  w : WP b
  cn : cnP b ≤ N
theorem Flat.ok {b : List Ins} {N R : Nat} (h : Flat b N R) (hR : R ≤ 2 ^ 100) : PrOk b 0 N := ⟨Nat.le_of_eq h.dp, h.w hR, by rw [h.cn]; exact h.len⟩
theorem PrOk.app {b c : List Ins} {k j N M : Nat} (h : PrOk b k N) (h2 : PrOk c j M) : PrOk (b ++ c) (max k j) (N + M) := ⟨by rw [dpP_app]; have := h.dp; have := h2.dp; omega, WP_app _ _ h.w h2.w, by rw [cnP_app]; have := h.cn; have := h2.cn; omega⟩
theorem PrOk.rep {b : List Ins} {k N : Nat} (h : PrOk b k N) (hN : N ≤ 1024) {n : Int} (hn : n.natAbs ≤ 2 ^ 100) : PrOk [.rep n b] (k + 1) (N + 1) := by
  refine ⟨?_, ?_, ?_⟩
  · rw [dpP_cons, dpI, show dpP [] = 0 by unfold dpP; rfl]
    have := h.dp
    omega
  · rw [WP_cons, WI]
    exact ⟨⟨hn, Nat.le_trans (len_cnP b) (Nat.le_trans h.cn hN), h.w⟩, by rw [WP]; trivial⟩
  · rw [cnP_cons, cnI, show cnP [] = 0 by unfold cnP; rfl]
    have := h.cn
    omega
theorem PrOk.up {b : List Ins} {k N k' N' : Nat} (h : PrOk b k N) (a : k ≤ k') (c : N ≤ N') : PrOk b k' N' := ⟨Nat.le_trans h.dp a, h.w, Nat.le_trans h.cn c⟩
def sp_shift_of (K : PySem.W.Frag) (k : Nat) : Sp := fun vs H Q _ => ∃ (v : V) (b : List Ins), vs = [v] ∧ PV K H v b ∧ dpP b < k ∧ k ≤ 3 ∧ WP b ∧ b.length ≤ 1024 ∧ Q (.int (shP b)) H
def sp_executed (K : PySem.W.Frag) (k : Nat) : Sp := fun vs H Q _ => ∃ (v : V) (b : List Ins), vs = [v] ∧ PV K H v b ∧ dpP b < k ∧ k ≤ 3 ∧ WP b ∧ b.length ≤ 1024 ∧ Q (.int (exP b)) H
theorem shP_snoc {b : List Ins} {j : Nat} {i : Ins} (h : b[j]? = some i) : shP (b.take (j + 1)) = shP (b.take j) + shI i := by
  rw [take_snoc h, shP_app, shP_cons, shP_nil, Int.add_zero]
theorem exP_snoc {b : List Ins} {j : Nat} {i : Ins} (h : b[j]? = some i) : exP (b.take (j + 1)) = exP (b.take j) + exI i := by
  rw [take_snoc h, exP_app, exP_cons, exP_nil, Int.add_zero]
theorem sh_lt {b : List Ins} {k : Nat} (h : dpP b < k) (hk : k ≤ 3) (w : WP b) (l : b.length ≤ 1024) : (shP b).natAbs < 2 ^ 331 := by
  have := sh_big 2 b (by omega) w l
  exact Nat.lt_of_le_of_lt this (by decide +kernel)
theorem ex_lt {b : List Ins} {k : Nat} (h : dpP b < k) (hk : k ≤ 3) (w : WP b) (l : b.length ≤ 1024) : (exP b).natAbs < 2 ^ 331 := by
  have := ex_big 2 b (by omega) w l
  exact Nat.lt_of_le_of_lt this (by decide +kernel)
def sp__law_body (K : PySem.W.Frag) : Sp := fun vs H Q _ => ∃ (p c : Addr) (most reach : Int) (n : Nat), vs = [.ref p, .int most, .int reach] ∧ 0 ≤ most ∧ most ≤ 100 ∧ 0 ≤ reach ∧ reach.natAbs < 10 ^ 90 ∧ PenAt H p c n ∧ n < 2 ^ 39 ∧
  ∀ D xs b H', H D = none → Kp p H H' → PenAt H' p c (n + 3 * most.toNat + 1) → H' D = some (.lst xs) → FIs K H' xs b → Flat b most.toNat (reach.natAbs + 3) → Q (.ref D) H'
end DR
namespace DR
open PySem PySem.Spec PyProof.Rows L2
def sp__law_program (K : PySem.W.Frag) : Sp := fun vs H Q _ => ∃ (p c : Addr) (most reach rounds : Int) (n : Nat), vs = [.ref p, .int most, .int reach, .int rounds] ∧ 0 ≤ most ∧ most ≤ 50 ∧ 0 ≤ reach ∧ reach ≤ 10 ^ 30 ∧ 0 ≤ rounds ∧ rounds ≤ 10 ^ 30 ∧ PenAt H p c n ∧ n < 2 ^ 38 ∧
  ∀ F xs b H', Kp p H H' → PenAt H' p c (n + 2000) → H' F = some (.lst xs) → IVs K H' xs b → PrOk b 2 656 → Q (.ref F) H'
def sp__law_wide_program (K : PySem.W.Frag) : Sp := fun vs H Q _ => ∃ (p c : Addr) (most : Int) (n : Nat), vs = [.ref p, .int most] ∧ 0 ≤ most ∧ most ≤ 50 ∧ PenAt H p c n ∧ n < 2 ^ 37 ∧
  ∀ F xs b H', Kp p H H' → PenAt H' p c (n + 2002) → H' F = some (.lst xs) → IVs K H' xs b → PrOk b 2 656 → Q (.ref F) H'
def sp__law_full_program (K : PySem.W.Frag) : Sp := fun vs H Q _ => ∃ (p c : Addr) (n : Nat), vs = [.ref p] ∧ PenAt H p c n ∧ n < 2 ^ 37 ∧
  ∀ F xs b H', Kp p H H' → PenAt H' p c (n + 500) → H' F = some (.lst xs) → IVs K H' xs b → PrOk b 2 1000 → Q (.ref F) H'
def sp__law_handed (K : PySem.W.Frag) (k : Nat) : Sp := fun vs H Q _ => ∃ (p c : Addr) (v : V) (b : List Ins) (n : Nat), vs = [.ref p, v] ∧ PV K H v b ∧ dpP b < k ∧ cnP b ≤ 1000 ∧ PenAt H p c n ∧ n + cnP b + 1 < 2 ^ 39 ∧
  ∀ u H', Kp p H H' → PenAt H' p c (n + cnP b + 1) → PV K (er H H') u b → Q u H'
def sp__law_shift (K : PySem.W.Frag) (k : Nat) : Sp := fun vs H Q _ => ∃ (v : V) (b : List Ins), vs = [v] ∧ PV K H v b ∧ dpP b < k ∧ k ≤ 3 ∧ WP b ∧ b.length ≤ 1024 ∧ ∀ H', Same H H' → Q (.int (shP b)) H'
def sp__law_executed (K : PySem.W.Frag) (k : Nat) : Sp := fun vs H Q _ => ∃ (v : V) (b : List Ins), vs = [v] ∧ PV K H v b ∧ dpP b < k ∧ k ≤ 3 ∧ WP b ∧ b.length ≤ 1024 ∧ ∀ H', Same H H' → Q (.int (exP b)) H'
theorem sh_sum : ∀ b : List Ins, (b.map shI).sum = shP b
  | [] => by rw [shP_nil]; rfl
  | i :: r => by rw [List.map_cons, List.sum_cons, sh_sum r, shP_cons]
theorem ex_sum : ∀ b : List Ins, (b.map exI).sum = exP b
  | [] => by rw [exP_nil]; rfl
  | i :: r => by rw [List.map_cons, List.sum_cons, ex_sum r, exP_cons]
/-! [an int for x in a program] -/
section
variable {K : PySem.W.Frag} {a : Addr} {xs : List V} {b : List Ins} {σ : L2.St} {H : Hp} {vs : List Nat} {n i : Nat} {te tv : TE} {Q : VK}
theorem lcIvL (G : Ins → Int) (hv : ∀ R : VK, R (.ref a) H → tv σ H R) (hs : SqL K H a xs) (hI : IVs K H xs b) (hl : b.length ≤ 100000)
    (hw : ∀ x, wipe ((wipe σ vs).set i (some x)) vs = wipe σ vs)
    (he : ∀ t ∈ b, ∀ x H2, Same H H2 → IV K H2 x t → ∀ R : VK, (∀ H3, Same H2 H3 → R (.int (G t)) H3) → te ((wipe σ vs).set i (some x)) H2 R)
    (k : ∀ D H2, H D = none → Same H H2 → H2 D = some (.lst ((b.map G).map V.int)) → Q (.ref D) H2) : tLc (iList K tv) (gName i) tYes te vs σ H Q := by
  refine hv _ ⟨a, rfl, ⟨_, hs⟩, fun D nD => lc_list (K := K) (a := a) (xs := xs) (fun m H2 => Same H H2 ∧ H2 D = some (.lst (((b.take m).map G).map V.int))) ⟨same_new nD, upd_same⟩ (fun m H2 _ g => same_l g.1 hs) ?_ ?_⟩
  · rintro m x H2 hm ⟨s2, h2⟩
    obtain ⟨t, ht, hx⟩ := hI.get hm
    refine ⟨hw _, ?_⟩
    dsimp only [tYes]
    rw [if_pos rfl]
    have hm2 : m < b.length := (List.getElem?_eq_some_iff.mp ht).1
    refine he t (List.mem_of_getElem? ht) x H2 s2 (hx.same s2) _ fun H3 s3 => ⟨_, s3 _ _ h2, sl_lt (by rw [List.length_map, List.length_map, List.length_take]; omega), same_mut (s2.trans s3) nD, ?_⟩
    rw [upd_same, take_snoc ht, List.map_append, List.map_append]
    rfl
  · rintro H2 ⟨s2, h2⟩
    rw [hI.len, List.take_length] at h2
    exact k D H2 nD s2 h2
theorem lcIvT (G : Ins → Int) (hv : ∀ R : VK, R (.ref a) H → tv σ H R) (hs : SqT K H a xs) (hI : IVs K H xs b) (hl : b.length ≤ 100000)
    (hw : ∀ x, wipe ((wipe σ vs).set i (some x)) vs = wipe σ vs)
    (he : ∀ t ∈ b, ∀ x H2, Same H H2 → IV K H2 x t → ∀ R : VK, (∀ H3, Same H2 H3 → R (.int (G t)) H3) → te ((wipe σ vs).set i (some x)) H2 R)
    (k : ∀ D H2, H D = none → Same H H2 → H2 D = some (.lst ((b.map G).map V.int)) → Q (.ref D) H2) : tLc (iTup K tv) (gName i) tYes te vs σ H Q := by
  refine hv _ ⟨a, rfl, ⟨_, hs⟩, fun D nD => lc_tup (K := K) (a := a) (xs := xs) (fun m H2 => Same H H2 ∧ H2 D = some (.lst (((b.take m).map G).map V.int))) ⟨same_new nD, upd_same⟩ (fun m H2 _ g => same_t g.1 hs) ?_ ?_⟩
  · rintro m x H2 hm ⟨s2, h2⟩
    obtain ⟨t, ht, hx⟩ := hI.get hm
    refine ⟨hw _, ?_⟩
    dsimp only [tYes]
    rw [if_pos rfl]
    have hm2 : m < b.length := (List.getElem?_eq_some_iff.mp ht).1
    refine he t (List.mem_of_getElem? ht) x H2 s2 (hx.same s2) _ fun H3 s3 => ⟨_, s3 _ _ h2, sl_lt (by rw [List.length_map, List.length_map, List.length_take]; omega), same_mut (s2.trans s3) nD, ?_⟩
    rw [upd_same, take_snoc ht, List.map_append, List.map_append]
    rfl
  · rintro H2 ⟨s2, h2⟩
    rw [hI.len, List.take_length] at h2
    exact k D H2 nD s2 h2
end
/-! rules whose fragment is told: for the inside of comprehensions -/
section
variable {X : Cx}
theorem ix_tupK (K : PySem.W.Frag) (h : X.K = K) : IxR X (rIxT K) := h ▸ ix_tup
theorem ix_listK (K : PySem.W.Frag) (h : X.K = K) : IxR X (rIxL K) := h ▸ ix_list
theorem op_catAK (K : PySem.W.Frag) (h : X.K = K) : OpR X (binaryOp .Add) (rCatA K) := h ▸ op_catA
theorem sl_tupAK (K : PySem.W.Frag) (h : X.K = K) : SlR X (rSlA K) := h ▸ sl_tupA
theorem sl_listK (K : PySem.W.Frag) (h : X.K = K) : SlR X (rSlL K) := h ▸ sl_list
end
/-! lists that stay while the pen draws -/
theorem kp_lst {H H' : Hp} {p c F : Addr} {n : Nat} {xs : List V} (pen : PenAt H p c n) (k : Kp p H H') (h : H F = some (.lst xs)) : H' F = some (.lst xs) :=
  k _ _ (pen.dict.elim fun _ e => ne_of h e (by intro z; cases z)) h
end DR
namespace DR
open PySem PySem.Spec PyProof.Rows L2
/-! ### what a program turns: at each place, run from 0 -/
def rsum (f : Int → Int) (s : Int) : Nat → Int → Int
  | 0, _ => 0
  | n + 1, x => rsum f s n x + f (x - n * s)
mutual
def seI : Ins → Int → Int
  | .step _, _ => 0
  | .turn c, x => if x = 0 then c else 0
  | .rep n b, x => rsum (fun y => seP b y) (shP b) n.toNat x
def seP : List Ins → Int → Int
  | [], _ => 0
  | i :: r, x => seI i x + seP r (x - shI i)
end
/-! the counts of repeats are from 0 on, and not too large to be run -/
mutual
def NI : Ins → Prop
  | .step _ => True
  | .turn _ => True
  | .rep n b => 0 ≤ n ∧ NP b
def NP : List Ins → Prop
  | [] => True
  | i :: r => NI i ∧ NP r
end
mutual
def unI : Ins → List Ins
  | .step c => [.step c]
  | .turn c => [.turn c]
  | .rep n b => (List.replicate n.toNat (unP b)).flatten
def unP : List Ins → List Ins
  | [] => []
  | i :: r => unI i ++ unP r
end
theorem seP_nil (x : Int) : seP [] x = 0 := by rw [seP]
theorem seP_cons (i : Ins) (r : List Ins) (x : Int) : seP (i :: r) x = seI i x + seP r (x - shI i) := by rw [seP]
theorem seP_app : ∀ (a b : List Ins) (x : Int), seP (a ++ b) x = seP a x + seP b (x - shP a)
  | [], b, x => by rw [List.nil_append, seP_nil, shP_nil, Int.zero_add, Int.sub_zero]
  | i :: r, b, x => by
    rw [List.cons_append, seP_cons, seP_cons, seP_app r b, shP_cons, Int.add_assoc]
    congr 2
    congr 1
    omega
theorem rsum_congr {f g : Int → Int} {s : Int} (h : ∀ x, f x = g x) : ∀ (n : Nat) (x : Int), rsum f s n x = rsum g s n x
  | 0, _ => rfl
  | n + 1, x => by
    show rsum f s n x + f _ = rsum g s n x + g _
    rw [rsum_congr h n x, h]
theorem NP_cons (i : Ins) (r : List Ins) : NP (i :: r) = (NI i ∧ NP r) := by rw [NP]
theorem NP_app : ∀ (a b : List Ins), NP a → NP b → NP (a ++ b)
  | [], b, _, h => h
  | i :: r, b, h, h2 => by
    rw [List.cons_append, NP_cons]
    rw [NP_cons] at h
    exact ⟨h.1, NP_app r b h.2 h2⟩
theorem NP_mem : ∀ {b : List Ins} {i : Ins}, NP b → i ∈ b → NI i
  | [], _, _, h => absurd h List.not_mem_nil
  | j :: r, i, w, h => by
    rw [NP_cons] at w
    rcases List.mem_cons.mp h with e | e
    · rw [e]; exact w.1
    · exact NP_mem w.2 e
theorem unP_cons (i : Ins) (r : List Ins) : unP (i :: r) = unI i ++ unP r := by rw [unP]
theorem unP_app : ∀ (a b : List Ins), unP (a ++ b) = unP a ++ unP b
  | [], b => by rw [show unP [] = [] by unfold unP; rfl]; rfl
  | i :: r, b => by rw [List.cons_append, unP_cons, unP_cons, unP_app r b, List.append_assoc]
theorem sh_flat (u : List Ins) : ∀ n : Nat, shP (List.replicate n u).flatten = n * shP u
  | 0 => by
    rw [List.replicate_zero, List.flatten_nil, shP_nil]
    omega
  | n + 1 => by
    rw [List.replicate_succ, List.flatten_cons, shP_app, sh_flat u n, Int.natCast_succ, Int.add_mul]
    omega
theorem ex_flat (u : List Ins) : ∀ n : Nat, exP (List.replicate n u).flatten = n * exP u
  | 0 => by
    rw [List.replicate_zero, List.flatten_nil, exP_nil]
    omega
  | n + 1 => by
    rw [List.replicate_succ, List.flatten_cons, exP_app, ex_flat u n, Int.natCast_succ, Int.add_mul]
    omega
theorem se_flat (u : List Ins) : ∀ (n : Nat) (x : Int), seP (List.replicate n u).flatten x = rsum (fun y => seP u y) (shP u) n x
  | 0, x => by
    rw [List.replicate_zero, List.flatten_nil, seP_nil]
    rfl
  | n + 1, x => by
    rw [List.replicate_succ', List.flatten_append, seP_app, se_flat u n x, sh_flat, List.flatten_cons, List.flatten_nil, List.append_nil]
    rfl
/-! the same effect, written out -/
mutual
theorem unI_ok : ∀ (i : Ins), NI i → shP (unI i) = shI i ∧ exP (unI i) = exI i ∧ ∀ x, seP (unI i) x = seI i x
  | .step c, _ => by
    rw [unI]
    refine ⟨by rw [shP_cons, shP_nil, Int.add_zero], by rw [exP_cons, exP_nil, Int.add_zero], fun x => by rw [seP_cons, seP_nil, Int.add_zero]⟩
  | .turn c, _ => by
    rw [unI]
    refine ⟨by rw [shP_cons, shP_nil, Int.add_zero], by rw [exP_cons, exP_nil, Int.add_zero], fun x => by rw [seP_cons, seP_nil, Int.add_zero]⟩
  | .rep n b, h => by
    rw [NI] at h
    obtain ⟨h1, h2, h3⟩ := unP_ok b h.2
    have hn : ((n.toNat : Nat) : Int) = n := Int.toNat_of_nonneg h.1
    rw [unI]
    refine ⟨by rw [sh_flat, h1, shI, hn], by rw [ex_flat, h2, exI, hn], fun x => ?_⟩
    rw [se_flat, seI, h1]
    exact rsum_congr h3 _ _
theorem unP_ok : ∀ (b : List Ins), NP b → shP (unP b) = shP b ∧ exP (unP b) = exP b ∧ ∀ x, seP (unP b) x = seP b x
  | [], _ => by
    rw [show unP [] = [] by unfold unP; rfl]
    exact ⟨rfl, rfl, fun _ => rfl⟩
  | i :: r, h => by
    rw [NP_cons] at h
    obtain ⟨a1, a2, a3⟩ := unI_ok i h.1
    obtain ⟨b1, b2, b3⟩ := unP_ok r h.2
    rw [unP_cons]
    exact ⟨by rw [shP_app, a1, b1, shP_cons], by rw [exP_app, a2, b2, exP_cons], fun x => by rw [seP_app, a3, b3, a1, seP_cons]⟩
end
mutual
theorem unI_flat : ∀ (i : Ins), ∀ j ∈ unI i, isFlat j
  | .step c, j, h => by
    rw [unI] at h
    cases List.mem_singleton.mp h
    trivial
  | .turn c, j, h => by
    rw [unI] at h
    cases List.mem_singleton.mp h
    trivial
  | .rep n b, j, h => by
    rw [unI] at h
    obtain ⟨l, hl, hj⟩ := List.mem_flatten.mp h
    rw [(List.mem_replicate.mp hl).2] at hj
    exact unP_flat b j hj
theorem unP_flat : ∀ (b : List Ins), ∀ j ∈ unP b, isFlat j
  | [], j, h => by
    rw [show unP [] = [] by unfold unP; rfl] at h
    exact absurd h List.not_mem_nil
  | i :: r, j, h => by
    rw [unP_cons] at h
    rcases List.mem_append.mp h with z | z
    · exact unI_flat i j z
    · exact unP_flat r j z
end
theorem flat_ex : ∀ (u : List Ins), (∀ j ∈ u, isFlat j) → exP u = (u.length : Int)
  | [], _ => by rw [exP_nil]; rfl
  | i :: r, h => by
    have h1 := h i List.mem_cons_self
    have h2 : exI i = 1 := by cases i <;> first | exact absurd h1 id | (rw [exI])
    rw [exP_cons, h2, flat_ex r fun j hj => h j (List.mem_cons_of_mem _ hj), List.length_cons]
    omega
theorem un_len {b : List Ins} (h : NP b) : ((unP b).length : Int) = exP b := by
  rw [← flat_ex _ (unP_flat b), (unP_ok b h).2.1]
mutual
theorem exI_nn : ∀ (i : Ins), NI i → 0 ≤ exI i
  | .step c, _ => by rw [exI]; decide
  | .turn c, _ => by rw [exI]; decide
  | .rep n b, h => by
    rw [NI] at h
    rw [exI]
    exact Int.mul_nonneg h.1 (exP_nn b h.2)
theorem exP_nn : ∀ (b : List Ins), NP b → 0 ≤ exP b
  | [], _ => by rw [exP_nil]; exact Int.le_refl _
  | i :: r, h => by
    rw [NP_cons] at h
    have := exI_nn i h.1
    have := exP_nn r h.2
    rw [exP_cons]
    omega
end
theorem exP_mem : ∀ {b : List Ins} {i : Ins}, NP b → i ∈ b → exI i ≤ exP b
  | [], _, _, h => absurd h List.not_mem_nil
  | j :: r, i, w, h => by
    rw [NP_cons] at w
    have h1 := exI_nn j w.1
    have h2 := exP_nn r w.2
    rw [exP_cons]
    rcases List.mem_cons.mp h with e | e
    · rw [e]; omega
    · have := exP_mem w.2 e; omega
theorem exP_take : ∀ (b : List Ins) (j : Nat), NP b → exP (b.take j) ≤ exP b
  | [], _, _ => by rw [List.take_nil]; exact Int.le_refl _
  | i :: r, 0, h => by
    rw [List.take_zero, exP_nil]
    exact exP_nn _ h
  | i :: r, j + 1, h => by
    rw [NP_cons] at h
    rw [List.take_succ_cons, exP_cons, exP_cons]
    have := exP_take r j h.2
    omega
theorem seP_snoc {b : List Ins} {j : Nat} {i : Ins} (h : b[j]? = some i) (x : Int) : seP (b.take (j + 1)) x = seP (b.take j) x + seI i (x - shP (b.take j)) := by
  rw [take_snoc h, seP_app, seP_cons, seP_nil, Int.add_zero]
theorem unP_snoc {b : List Ins} {j : Nat} {i : Ins} (h : b[j]? = some i) : unP (b.take (j + 1)) = unP (b.take j) ++ unI i := by
  rw [take_snoc h, unP_app, unP_cons, show unP [] = [] by unfold unP; rfl, List.append_nil]
theorem NP_take : ∀ {b : List Ins} (j : Nat), NP b → NP (b.take j)
  | [], _, _ => by rw [List.take_nil, NP]; trivial
  | i :: r, 0, h => by rw [List.take_zero, NP]; trivial
  | i :: r, j + 1, h => by
    rw [NP_cons] at h
    rw [List.take_succ_cons, NP_cons]
    exact ⟨h.1, NP_take j h.2⟩
/-! rounds that may be run -/
mutual
def RI (N : Int) : Ins → Prop
  | .step _ => True
  | .turn _ => True
  | .rep n b => n ≤ N ∧ RP N b
def RP (N : Int) : List Ins → Prop
  | [] => True
  | i :: r => RI N i ∧ RP N r
end
theorem RP_cons (N : Int) (i : Ins) (r : List Ins) : RP N (i :: r) = (RI N i ∧ RP N r) := by rw [RP]
theorem RP_mem {N : Int} : ∀ {b : List Ins} {i : Ins}, RP N b → i ∈ b → RI N i
  | [], _, _, h => absurd h List.not_mem_nil
  | j :: r, i, w, h => by
    rw [RP_cons] at w
    rcases List.mem_cons.mp h with e | e
    · rw [e]; exact w.1
    · exact RP_mem w.2 e
theorem RP_app {N : Int} : ∀ (a b : List Ins), RP N a → RP N b → RP N (a ++ b)
  | [], b, _, h => h
  | i :: r, b, h, h2 => by
    rw [List.cons_append, RP_cons]
    rw [RP_cons] at h
    exact ⟨h.1, RP_app r b h.2 h2⟩
/-! ### how far a run goes -/
mutual
def trI : Ins → Int
  | .step c => (c.natAbs : Int)
  | .turn _ => 0
  | .rep n b => (n.natAbs : Int) * trP b
def trP : List Ins → Int
  | [] => 0
  | i :: r => trI i + trP r
end
theorem trP_nil : trP [] = 0 := by unfold trP; rfl
theorem trP_cons (i : Ins) (r : List Ins) : trP (i :: r) = trI i + trP r := by rw [trP]
mutual
theorem trI_nn : ∀ i : Ins, 0 ≤ trI i
  | .step c => by rw [trI]; omega
  | .turn c => by rw [trI]; omega
  | .rep n b => by
    rw [trI]
    exact Int.mul_nonneg (by omega) (trP_nn b)
theorem trP_nn : ∀ b : List Ins, 0 ≤ trP b
  | [] => by rw [trP_nil]; omega
  | i :: r => by
    have := trI_nn i
    have := trP_nn r
    rw [trP_cons]
    omega
end
mutual
theorem shI_tr : ∀ i : Ins, ((shI i).natAbs : Int) ≤ trI i
  | .step c => by rw [shI, trI]; omega
  | .turn c => by rw [shI, trI]; omega
  | .rep n b => by
    rw [shI, trI, Int.natAbs_mul, Int.natCast_mul]
    exact Int.mul_le_mul_of_nonneg_left (shP_tr b) (by omega)
theorem shP_tr : ∀ b : List Ins, ((shP b).natAbs : Int) ≤ trP b
  | [] => by rw [shP_nil, trP_nil]; decide
  | i :: r => by
    have := shI_tr i
    have := shP_tr r
    rw [shP_cons, trP_cons]
    omega
end
theorem rsum_far {f : Int → Int} {s t : Int} (hs : (s.natAbs : Int) ≤ t) (hf : ∀ x : Int, t < (x.natAbs : Int) → f x = 0) : ∀ (n : Nat) (x : Int), (n : Int) * t < (x.natAbs : Int) → rsum f s n x = 0
  | 0, _, _ => rfl
  | n + 1, x, h => by
    rw [Int.natCast_succ, Int.add_mul, Int.one_mul] at h
    have h0 : 0 ≤ t := by omega
    have h1 : ((n * s).natAbs : Int) ≤ (n : Int) * t := by
      rw [Int.natAbs_mul, Int.natCast_mul]
      exact Int.mul_le_mul_of_nonneg_left hs (by omega)
    show rsum f s n x + f (x - n * s) = 0
    rw [rsum_far hs hf n x (by omega), hf _ (by omega)]
    rfl
mutual
theorem seI_far : ∀ (i : Ins) (x : Int), NI i → trI i < (x.natAbs : Int) → seI i x = 0
  | .step c, x, _, _ => by rw [seI]
  | .turn c, x, _, h => by
    rw [trI] at h
    rw [seI, if_neg (by omega)]
  | .rep n b, x, hn, h => by
    rw [NI] at hn
    rw [trI] at h
    rw [seI]
    refine rsum_far (t := trP b) (shP_tr b) (fun y hy => seP_far b y hn.2 hy) _ _ ?_
    rw [Int.toNat_of_nonneg hn.1]
    have e : ((n.natAbs : Nat) : Int) = n := by omega
    rw [e] at h
    exact h
theorem seP_far : ∀ (b : List Ins) (x : Int), NP b → trP b < (x.natAbs : Int) → seP b x = 0
  | [], x, _, _ => seP_nil x
  | i :: r, x, hn, h => by
    rw [NP_cons] at hn
    rw [trP_cons] at h
    have := shI_tr i
    have := trP_nn r
    have := trI_nn i
    rw [seP_cons, seI_far i x hn.1 (by omega), seP_far r _ hn.2 (by omega)]
    rfl
end
theorem tr_big : ∀ (k : Nat) (b : List Ins), dpP b ≤ k → WP b → b.length ≤ 1024 → (trP b).natAbs ≤ 2 ^ (110 * (k + 1))
  | k, b, hd, hw, hl => by
    have hI : ∀ i ∈ b, (trI i).natAbs ≤ 2 ^ (110 * k + 100) := fun i hi => by
      have wi := WP_mem hw hi
      have di := Nat.le_trans (dpP_mem hi) hd
      cases i with
      | step c =>
        rw [trI]
        rw [WI] at wi
        exact Nat.le_trans (show ((c.natAbs : Int)).natAbs ≤ 2 ^ 100 by omega) (pow_le2 (by omega))
      | turn c =>
        rw [trI]
        exact Nat.zero_le _
      | rep n bb =>
        rw [trI]
        rw [WI] at wi
        rw [dpI] at di
        have := tr_big (k - 1) bb (by omega) wi.2.2 wi.2.1
        rw [Int.natAbs_mul]
        have e : 110 * (k - 1 + 1) = 110 * k := by omega
        rw [e] at this
        have h3 := Nat.mul_le_mul (show ((n.natAbs : Int)).natAbs ≤ 2 ^ 100 by omega) this
        rw [← Nat.pow_add] at h3
        rw [Nat.add_comm]
        exact h3
    have h := bigs trI trP trP_nil trP_cons _ b hI
    have h2 : 2 ^ (110 * k + 100) * b.length ≤ 2 ^ (110 * k + 100) * 2 ^ 10 := Nat.mul_le_mul_left _ hl
    rw [← Nat.pow_add] at h2
    exact Nat.le_trans h h2
termination_by k => k
decreasing_by
  rw [dpI] at di
  omega
/-- the dials that a run turns may be shown -/
theorem se_sm {q : Int} {b : List Ins} {g : Pol} (N : Nf q g (seP b)) (hq : q ≤ 97) (hd : dpP b ≤ 2) (hw : WP b) (hl : b.length ≤ 1024) (hn : NP b) (hg : g.length ≤ 50000) : Sm g := by
  refine ⟨hg, fun t ht => ⟨N.subP (R := fun e => e.natAbs < 10 ^ 100) (fun e he => ?_) t ht, ?_⟩⟩
  · rw [seP_far b e hn ?_]
    · rfl
    · have h1 := tr_big 2 b hd hw hl
      have h2 : 2 ^ (110 * (2 + 1)) < 10 ^ 100 := by decide +kernel
      have h3 := trP_nn b
      omega
  · have := N.rng t ht
    exact Nat.lt_of_le_of_lt (show t.2.natAbs ≤ 97 by omega) (by decide +kernel)
/-! ### drawn programs, with what their repeats may do -/
structure PrR (b : List Ins) (k N : Nat) (R : Int) : Prop where
  ok : PrOk b k N
  nn : NP b
  rp : RP R b
theorem flat_np : ∀ {b : List Ins} {R : Int}, (∀ i ∈ b, isFlat i) → NP b ∧ RP R b
  | [], _, _ => by rw [NP, RP]; exact ⟨trivial, trivial⟩
  | i :: r, R, h => by
    have h1 := h i List.mem_cons_self
    obtain ⟨a, c⟩ := flat_np (b := r) (R := R) fun j hj => h j (List.mem_cons_of_mem _ hj)
    rw [NP_cons, RP_cons]
    cases i with
    | step _ => rw [NI, RI]; exact ⟨⟨trivial, a⟩, trivial, c⟩
    | turn _ => rw [NI, RI]; exact ⟨⟨trivial, a⟩, trivial, c⟩
    | rep _ _ => exact absurd h1 id
theorem Flat.okR {b : List Ins} {N R : Nat} (h : Flat b N R) (hR : R ≤ 2 ^ 100) (M : Int) : PrR b 0 N M := ⟨h.ok hR, (flat_np (R := M) h.flat).1, (flat_np h.flat).2⟩
theorem PrR.app {b c : List Ins} {k j N M : Nat} {R : Int} (h : PrR b k N R) (h2 : PrR c j M R) : PrR (b ++ c) (max k j) (N + M) R := ⟨h.ok.app h2.ok, NP_app _ _ h.nn h2.nn, RP_app _ _ h.rp h2.rp⟩
theorem PrR.rep {b : List Ins} {k N : Nat} {R : Int} (h : PrR b k N R) (hN : N ≤ 1024) {n : Int} (hn : n.natAbs ≤ 2 ^ 100) (h0 : 0 ≤ n) (h9 : n ≤ R) : PrR [.rep n b] (k + 1) (N + 1) R := by
  refine ⟨h.ok.rep hN hn, ?_, ?_⟩
  · rw [NP_cons, NI, NP]
    exact ⟨⟨h0, h.nn⟩, trivial⟩
  · rw [RP_cons, RI, RP]
    exact ⟨⟨h9, h.rp⟩, trivial⟩
theorem PrR.up {b : List Ins} {k N k' N' : Nat} {R : Int} (h : PrR b k N R) (a : k ≤ k') (c : N ≤ N') : PrR b k' N' R := ⟨h.ok.up a c, h.nn, h.rp⟩
mutual
theorem RI_up {R R' : Int} (h : R ≤ R') : ∀ (i : Ins), RI R i → RI R' i
  | .step _, _ => by rw [RI]; trivial
  | .turn _, _ => by rw [RI]; trivial
  | .rep n b, z => by
    rw [RI] at z ⊢
    exact ⟨Int.le_trans z.1 h, RP_up h b z.2⟩
theorem RP_up {R R' : Int} (h : R ≤ R') : ∀ (b : List Ins), RP R b → RP R' b
  | [], _ => by rw [RP]; trivial
  | i :: r, z => by
    rw [RP_cons] at z ⊢
    exact ⟨RI_up h i z.1, RP_up h r z.2⟩
end
/-- at most so many executed: instructions times the rounds around them -/
theorem ex_bd {R : Nat} (hR : 1 ≤ R) : ∀ (k : Nat) (b : List Ins), dpP b ≤ k → NP b → RP R b → exP b ≤ ((cnP b * R ^ k : Nat) : Int)
  | k, [], _, _, _ => by rw [exP_nil]; omega
  | k, i :: r, hd, hn, hr => by
    rw [dpP_cons] at hd
    rw [NP_cons] at hn
    rw [RP_cons] at hr
    have h2 := ex_bd hR k r (by omega) hn.2 hr.2
    have hp : 1 ≤ R ^ k := Nat.one_le_pow _ _ hR
    have h1 : exI i ≤ ((cnI i * R ^ k : Nat) : Int) := by
      cases i with
      | step c =>
        rw [exI, cnI]
        omega
      | turn c =>
        rw [exI, cnI]
        omega
      | rep n bb =>
        have hd1 : dpP bb + 1 ≤ k := by
          have := hd
          rw [dpI] at this
          omega
        have hn1 := hn.1
        have hr1 := hr.1
        rw [NI] at hn1
        rw [RI] at hr1
        have h3 := ex_bd hR (k - 1) bb (by omega) hn1.2 hr1.2
        rw [exI, cnI]
        have e : R ^ k = R * R ^ (k - 1) := by
          rw [show k = k - 1 + 1 by omega, Nat.pow_succ, Nat.mul_comm]
          rfl
        have h4 : n * exP bb ≤ (R : Int) * ((cnP bb * R ^ (k - 1) : Nat) : Int) := Int.le_trans (Int.mul_le_mul_of_nonneg_right hr1.1 (exP_nn bb hn1.2)) (Int.mul_le_mul_of_nonneg_left h3 (by omega))
        have e2 : (R : Int) * ((cnP bb * R ^ (k - 1) : Nat) : Int) = ((cnP bb * R ^ k : Nat) : Int) := by
          rw [e, ← Int.natCast_mul]
          congr 1
          rw [← Nat.mul_assoc, ← Nat.mul_assoc, Nat.mul_comm R]
        rw [e2] at h4
        have : cnP bb * R ^ k ≤ (cnP bb + 1) * R ^ k := Nat.mul_le_mul_right _ (Nat.le_succ _)
        omega
    rw [exP_cons, cnP_cons, Nat.add_mul]
    omega
termination_by k b => (k, b.length)
/-! ### promises -/
def sp__law_programR (K : PySem.W.Frag) : Sp := fun vs H Q _ => ∃ (p c : Addr) (most reach rounds : Int) (n : Nat), vs = [.ref p, .int most, .int reach, .int rounds] ∧ 0 ≤ most ∧ most ≤ 50 ∧ 0 ≤ reach ∧ reach ≤ 10 ^ 30 ∧ 0 ≤ rounds ∧ rounds ≤ 10 ^ 30 ∧ PenAt H p c n ∧ n < 2 ^ 38 ∧
  ∀ F xs b H', Kp p H H' → PenAt H' p c (n + 2000) → H' F = some (.lst xs) → IVs K H' xs b → PrR b 2 (13 * most.toNat + 6) rounds → Q (.ref F) H'
def sp_unrolled (K : PySem.W.Frag) (k : Nat) : Sp := fun vs H Q _ => ∃ (v : V) (b : List Ins), vs = [v] ∧ PV K H v b ∧ dpP b < k ∧ NP b ∧ exP b ≤ 10000 ∧
  ∀ D ys H', Same H H' → H D = none → H' D = some (.lst ys) → FIs K H' ys (unP b) → Q (.ref D) H'
def sp_effect_of (K : PySem.W.Frag) : Sp := fun vs H Q _ => ∃ (p : Int) (v : V) (b : List Ins), vs = [.int p, v] ∧ 0 < p ∧ PV K H v b ∧ dpP b < 3 ∧ WP b ∧ b.length ≤ 1024 ∧ NP b ∧ exP b ≤ 10000 ∧
  ∀ u H' g, Same H H' → TEff K H' u g (shP b) → Nf p g (seP b) → g.length ≤ 10000 → Q u H'
/-- a dict of dials: distinct places, worth F modulo p -/
structure Dials (p : Int) (m : Pol) (F : Int → Int) : Prop where
  nd : (m.map (·.1)).Nodup
  wo : ∀ x, cf m x = F x % p
def sp__law_run (K : PySem.W.Frag) (k : Nat) : Sp := fun vs H Q _ => ∃ (p : Int) (v : V) (pl : Int) (b : List Ins), vs = [.int p, v, .int pl] ∧ 0 < p ∧ PV K H v b ∧ dpP b < k ∧ NP b ∧ RP 1000000 b ∧ exP b ≤ 100000 ∧
  ∀ t d H' m, Same H H' → H' t = some (.tup [.ref d, .int (pl + shP b)]) → H d = none → H' d = some (.dK (kvOf m)) → Dials p m (fun x => seP b (x - pl)) → (m.length : Int) ≤ exP b → Q (.ref t) H'
def sp__law_ran (K : PySem.W.Frag) : Sp := fun vs H Q _ => ∃ (p : Int) (v : V) (b : List Ins), vs = [.int p, v] ∧ 0 < p ∧ PV K H v b ∧ dpP b < 3 ∧ NP b ∧ RP 1000000 b ∧ exP b ≤ 100000 ∧
  ∀ u H' g, Same H H' → TEff K H' u g (shP b) → Nf p g (seP b) → Q u H'
end DR
namespace DR
open PySem PySem.Spec PyProof.Rows L2
section
variable {prog : Program} {w : World} {A : Around} {E : Value → Shared → Prop} {s : Shared}
/-- the items of a tuple, gathered: the heap is told -/
abbrev gathered (h : Heap) (arr : Array Value) : Heap := (h.push { cls := .type "list", data := .seq ([] : List Value).toArray }).update h.objs.size (Obj.mapSeq (· ++ arr))
theorem gathered_size (h : Heap) (arr : Array Value) : (gathered h arr).objs.size = h.objs.size + 1 := by
  show (Heap.update _ _ _).objs.size = _
  simp only [Heap.size_update, size_push']
theorem gathered_old {h : Heap} {arr : Array Value} {b : Addr} {u : Obj} (e : h.get? b = some u) : (gathered h arr).get? b = some u := by
  have := Nat.ne_of_gt (Heap.lt_size e)
  exact (Heap.get?_update_other _ _ this).trans (Heap.get?_push_of_some _ e)
theorem collect_tup {t : Addr} {arr : Array Value} {R : List Value → Shared → Prop} (ht : IsTup s.heap t arr) (hz : arr.size ≤ sizeLine) (k : R arr.toList { s with heap := gathered s.heap arr }) : wpAny (model prog w) A (collect (.ref t)) R E s := by
  obtain ⟨ob, h1, h2, c, h3⟩ := ht
  have hN : (s.heap.push { cls := .type "list", data := .seq ([] : List Value).toArray }).get? s.heap.objs.size = some { cls := .type "list", data := .seq #[] 0 } := Heap.get?_push_size _ rfl
  have hN2 := Heap.get?_update_self (Obj.mapSeq (· ++ arr)) hN rfl
  unfold collect
  have plain := Around.under_plainId (A := A) PySem.F.plain_proto_collect
  refine wpAny_bind (wpAny_runValue (codeAny_builtin PySem.F.entry_proto_collect ?_))
  rw [plain _]
  refine wpAny_bind (m := newList []) (wpAny_newObj_type (wpAny_pure ⟨plainId_quiet PySem.F.plain_list_iadd _, codeAny_builtin PySem.F.entry_list_iadd ?_⟩))
  rw [Around.under_plainId PySem.F.plain_list_iadd _]
  have last : ∀ s2 : Shared, s2 = { s with heap := gathered s.heap arr } → wpAny (model prog w) A (do match (← load s.heap.objs.size).data with | Data.seq xs _ => pure xs.toList | _ => unsupported "internal:collect") R E s2 := by
    rintro s2 rfl
    refine wpAny_bind (wpAny_load hN2 (wpAny_pure ?_))
    have e : ((#[] : Array Value) ++ arr).toList = arr.toList := by simp
    show R ((#[] : Array Value) ++ arr).toList _
    rw [e]
    exact k
  have ext := wpAny_extend_seq (prog := prog) (w := w) (A := A) (R := fun r s' => r = .ok (.ret (.ref s.heap.objs.size)) ∧ s' = { s with heap := gathered s.heap arr }) (s := { s with heap := s.heap.push { cls := .type "list", data := .seq ([] : List Value).toArray } }) _ t (.ref s.heap.objs.size) 0 (.inr rfl) hN (Heap.get?_push_of_some _ h1) h2 h3 ⟨rfl, rfl⟩ hz
  refine wpAny_mono ext (fun fin s' z => ?_) fun e s' z => absurd z.1 (by simp)
  cases fin with
  | done f =>
    obtain ⟨q, e2⟩ := z
    cases q
    exact last _ e2
  | again c' => exact ⟨z.1, codeAny_mono z.2 fun r s2 y => by
      obtain ⟨q, e2⟩ := y
      subst q
      exact last _ e2⟩
/-- sorted of a tuple of pairs: a new list of them in some order -/
theorem sorted_tup {t : Addr} {pairs : List Value} {after : Value → Shared → Prop} (there : IsTup s.heap t pairs.toArray) (room : pairs.length ≤ sizeLine) (each : ∀ v ∈ pairs, ∃ x y, Srt.IsPair s.heap v x y)
    (next : ∀ (g : Heap) (p : Addr) (out : List Value) (stamp : Nat), out.Perm pairs → (∀ b u, s.heap.get? b = some u → g.get? b = some u) → s.heap.objs.size ≤ p → g.get? p = some (seqObj "list" out.toArray stamp) → after (.ref p) { s with heap := g }) :
    wpAny (model prog w) A (call (.builtin "sorted") [.ref t]) after E s := by
  have fit : pairs.toArray.size ≤ sizeLine := by rw [List.size_toArray]; exact room
  refine Calls.call_function_entry kind_sorted plain_sorted entry_sorted (args_sorted1 _) ?_
  unfold Builtin.«sorted»
  refine wpAny_bind (m := checkCount "sorted" 1 1 _) (wpAny_pure (wpAny_bind (collect_tup there fit (wpAny_bind (wpAny_newList ?_ room)))))
  have stay : ∀ b u, s.heap.get? b = some u → (gathered s.heap pairs.toArray).get? b = some u := fun b u old => gathered_old old
  have above : s.heap.objs.size ≤ (gathered s.heap pairs.toArray).objs.size := by rw [gathered_size]; omega
  generalize gathered s.heap pairs.toArray = g at stay above
  have laid : (g.push (seqObj "list" pairs.toArray 0)).get? g.objs.size = some (seqObj "list" pairs.toArray 0) := Heap.get?_push_size _ rfl
  have keep : ∀ b u, s.heap.get? b = some u → (g.push (seqObj "list" pairs.toArray 0)).get? b = some u := fun b u old => Heap.get?_push_of_some _ (stay b u old)
  have able := fun two : 0 < pairs.length => Srt.pairs_sortable (prog := prog) (w := w) (A := A.in1.in1) (s := { s with heap := g.push (seqObj "list" pairs.toArray 0) }) (a := g.objs.size) (vs := pairs) two
    (fun v hv => by
      obtain ⟨x, y, p⟩ := each v hv
      exact ⟨x, y, p.keeps fun b u old _ => keep b u old⟩)
    (fun u hu => by
      have q : some (seqObj "list" pairs.toArray 0) = some u := laid.symm.trans hu
      cases q
      exact fun c => absurd (Value.type.inj c) (by decide))
  refine wpAny_bind (wpAny_holding (wpAny_call_entry slot_list_sort ⟨_, laid, rfl⟩ entry_list_sort (Srt.list_sort_any laid room (fun two => able (by omega)) fun out perm => ⟨_, rfl, ?_⟩) (args_list_sort _)))
  obtain ⟨stamp, found⟩ := sortedHeap_at (vs := pairs) (out := out.toArray) laid
  refine wpAny_pure ⟨_, rfl, next _ _ out stamp perm (fun b u old => ?_) above found⟩
  have below : b < g.objs.size := Heap.lt_size (stay b u old)
  have wider : b < (g.push (seqObj "list" pairs.toArray 0)).objs.size := by
    rw [size_push']
    exact Nat.lt_succ_of_lt below
  exact (sortedHeap_old (Nat.ne_of_lt below) wider).trans (keep b u old)
end
section
variable {X : Cx}
/-- sorted(t), t a tuple of pairs of ints: a new list of the same pairs, in some order -/
def rSortTP (K : PySem.W.Frag) : List V → Hp → VK → Prop := fun vs H Q => ∃ a xs, vs = [V.ref a] ∧ SqT K H a xs ∧ (∀ x ∈ xs, ∃ t i j, x = V.ref t ∧ SqT K H t [.int i, .int j]) ∧
  ∀ (ys : List V) (new : Addr), ys.Perm xs → H new = none → Q (.ref new) (upd H new (.lst ys))
theorem cr_sortTP : CallR X (.builtin "sorted") (rSortTP X.K) := by
  intro pins now σ G given us K I r told
  obtain ⟨t, xs, rfl, seen, pairs, told⟩ := told
  obtain ⟨items, alike, there, room⟩ := I.tuple seen
  have len := alike.length
  rw [Vals.ref1 r]
  obtain ⟨back, refs⟩ := refs_back alike fun x hx => by
    obtain ⟨q, _, _, e, _⟩ := pairs x hx
    exact ⟨q, e⟩
  refine sorted_tup there (by omega) (fun v hv => ?_) fun g p out stamp perm old above found => ?_
  · obtain ⟨q, rfl⟩ := refs v hv
    have hx : V.ref q ∈ xs := back ▸ List.mem_map.mpr ⟨_, hv, rfl⟩
    obtain ⟨_, i, j, e, two⟩ := pairs _ hx
    cases e
    obtain ⟨parts, like, ⟨u, hu, cls, n, data⟩, _⟩ := I.tuple two
    obtain ⟨_, _, rfl, ⟨m1, rfl⟩, ⟨m2, rfl⟩⟩ := vals2 like
    exact ⟨i, j, q, u, m1, m2, n, rfl, hu, cls, data⟩
  · have fit : (out.map backV).length ≤ sizeLine := by
      rw [List.length_map, perm.length_eq]
      omega
    have same : (out.map backV).Perm xs := back ▸ perm.map backV
    exact ⟨.ref p, _, I.laid (t' := now.toks) (o := .lst (out.map backV)) old above ⟨fit, out, stamp, vals_back fun u hu => refs u (perm.subset hu), found⟩, rfl, told _ p same (I.hok.fresh above)⟩
end
end DR
namespace DR
open PySem PySem.Spec PyProof.Rows L2
/-! ### sums over rounds -/
theorem rsum_zero (s : Int) : ∀ (n : Nat) (x : Int), rsum (fun _ => 0) s n x = 0
  | 0, _ => rfl
  | n + 1, x => by
    show rsum _ s n x + 0 = 0
    rw [rsum_zero s n x]
    rfl
theorem rsum_add (f g : Int → Int) (s : Int) : ∀ (n : Nat) (x : Int), rsum (fun y => f y + g y) s n x = rsum f s n x + rsum g s n x
  | 0, _ => rfl
  | n + 1, x => by
    show rsum _ s n x + (f _ + g _) = (rsum f s n x + f _) + (rsum g s n x + g _)
    rw [rsum_add f g s n x]
    omega
theorem rsum_mul (c : Int) (f : Int → Int) (s : Int) : ∀ (n : Nat) (x : Int), rsum (fun y => c * f y) s n x = c * rsum f s n x
  | 0, _ => by show 0 = c * 0; rw [Int.mul_zero]
  | n + 1, x => by
    show rsum _ s n x + c * f _ = c * (rsum f s n x + f _)
    rw [rsum_mul c f s n x, Int.mul_add]
theorem rsum_move (f : Int → Int) (s c : Int) : ∀ (n : Nat) (x : Int), rsum (fun y => f (y - c)) s n x = rsum f s n (x - c)
  | 0, _ => rfl
  | n + 1, x => by
    show rsum _ s n x + f (x - n * s - c) = rsum f s n (x - c) + f (x - c - n * s)
    rw [rsum_move f s c n x]
    congr 2
    omega
theorem rsum_swap (f : Int → Int) (a b : Int) (n : Nat) : ∀ (m : Nat) (x : Int), rsum (fun y => rsum f a n y) b m x = rsum (fun y => rsum f b m y) a n x
  | 0, x => by
    show 0 = rsum (fun _ => 0) a n x
    rw [rsum_zero]
  | m + 1, x => by
    show rsum _ b m x + rsum f a n (x - m * b) = rsum (fun y => rsum f b m y + f (y - m * b)) a n x
    rw [rsum_add (fun y => rsum f b m y) (fun y => f (y - m * b)), rsum_swap f a b n m x, rsum_move]
theorem rsum_const (f : Int → Int) : ∀ (n : Nat) (x : Int), rsum f 0 n x = n * f x
  | 0, x => by show 0 = _; simp
  | n + 1, x => by
    show rsum f 0 n x + f (x - n * 0) = _
    rw [rsum_const f n x, Int.mul_zero, Int.sub_zero, Int.natCast_succ, Int.add_mul, Int.one_mul]
/-- counted from the last one -/
theorem rsum_head (f : Int → Int) (s : Int) : ∀ (n : Nat) (x : Int), rsum f s (n + 1) x = f x + rsum f s n (x - s)
  | 0, x => by
    show 0 + f (x - ((0 : Nat) : Int) * s) = f x + 0
    rw [Int.zero_add, Int.add_zero]
    congr 1
    simp
  | n + 1, x => by
    show rsum f s (n + 1) x + f (x - ((n + 1 : Nat) : Int) * s) = f x + (rsum f s n (x - s) + f (x - s - n * s))
    rw [rsum_head f s n x, Int.add_assoc]
    congr 3
    rw [Int.natCast_succ, Int.add_mul, Int.one_mul]
    omega
theorem rsum_back (f : Int → Int) (s : Int) : ∀ (n : Nat) (x : Int), rsum f s (n + 1) x = rsum f (-s) (n + 1) (x - n * s)
  | 0, x => by
    show 0 + f _ = 0 + f _
    congr 2
    simp
  | n + 1, x => by
    rw [rsum_head f (-s) (n + 1)]
    show rsum f s (n + 1) x + f (x - ((n + 1 : Nat) : Int) * s) = _
    rw [rsum_back f s n x, Int.add_comm]
    congr 2
    rw [Int.natCast_succ, Int.add_mul, Int.one_mul]
    omega
/-! ### how many ways rounds reach a place -/
def wy : Pol → Int → Int
  | [], d => if d = 0 then 1 else 0
  | r :: rs, d => rsum (fun y => wy rs y) r.2 r.1.toNat d
theorem wy_nil (d : Int) : wy [] d = if d = 0 then 1 else 0 := rfl
theorem wy_cons (r : Int × Int) (rs : Pol) (d : Int) : wy (r :: rs) d = rsum (fun y => wy rs y) r.2 r.1.toNat d := rfl
theorem wy_perm {r r' : Pol} (h : r.Perm r') : ∀ d, wy r d = wy r' d := by
  induction h with
  | nil => exact fun _ => rfl
  | cons x _ ih =>
    intro d
    rw [wy_cons, wy_cons]
    exact rsum_congr ih _ _
  | swap x y l =>
    intro d
    rw [wy_cons, wy_cons, rsum_congr (g := fun z => rsum (fun w => wy l w) x.2 x.1.toNat z) (fun z => wy_cons x l z), rsum_congr (g := fun z => rsum (fun w => wy l w) y.2 y.1.toNat z) (fun z => wy_cons y l z) x.1.toNat d]
    exact rsum_swap (fun w => wy l w) x.2 y.2 x.1.toNat y.1.toNat d
  | trans _ _ h1 h2 => exact fun d => (h1 d).trans (h2 d)
theorem rsum_bd {f : Int → Int} {s : Int} {M : Int} (h : ∀ x, 0 ≤ f x ∧ f x ≤ M) : ∀ (n : Nat) (x : Int), 0 ≤ rsum f s n x ∧ rsum f s n x ≤ n * M
  | 0, x => by show 0 ≤ 0 ∧ 0 ≤ _; simp
  | n + 1, x => by
    have h1 := rsum_bd h (s := s) n x
    have h2 := h (x - n * s)
    show 0 ≤ rsum f s n x + f _ ∧ rsum f s n x + f _ ≤ _
    rw [Int.natCast_succ, Int.add_mul, Int.one_mul]
    omega
/-- a term: place, coefficient, rounds -/
structure Tm where
  pl : Int
  co : Int
  rs : Pol
def tv (t : Tm) (x : Int) : Int := t.co * wy t.rs (x - t.pl)
def tvs (ts : List Tm) (x : Int) : Int := (ts.map fun t => tv t x).sum
theorem tvs_nil (x : Int) : tvs [] x = 0 := rfl
theorem tvs_app (a b : List Tm) (x : Int) : tvs (a ++ b) x = tvs a x + tvs b x := by
  unfold tvs
  rw [List.map_append, List.sum_append]
/-- what a term becomes if it is repeated -/
structure Repd (t : Tm) (n s : Int) (t' : Tm) : Prop where
  val : ∀ x, tv t' x = rsum (fun y => tv t y) s n.toNat x
theorem repd_zero {t : Tm} {n : Int} (hn : 0 < n) : Repd t n 0 ⟨t.pl, t.co * n, t.rs⟩ := ⟨fun x => by
  rw [rsum_const, Int.toNat_of_nonneg (by omega)]
  show t.co * n * _ = n * (t.co * _)
  rw [← Int.mul_assoc, Int.mul_comm n]⟩
theorem repd_one {t : Tm} {s : Int} : Repd t 1 s ⟨t.pl, t.co * 1, t.rs⟩ := ⟨fun x => by
  show t.co * 1 * wy t.rs _ = 0 + tv t (x - ((0 : Nat) : Int) * s)
  rw [Int.mul_one, Int.zero_add]
  show t.co * wy t.rs (x - t.pl) = t.co * wy t.rs (x - ((0 : Nat) : Int) * s - t.pl)
  congr 2
  simp⟩
theorem repd_pos {t : Tm} {n s : Int} {rs : Pol} (hp : rs.Perm (t.rs ++ [(n, s)])) : Repd t n s ⟨t.pl, t.co, rs⟩ := ⟨fun x => by
  show t.co * wy rs (x - t.pl) = rsum (fun y => t.co * wy t.rs (y - t.pl)) s n.toNat x
  rw [rsum_mul, rsum_move (fun z => wy t.rs z), wy_perm (hp.trans List.perm_append_comm)]
  rfl⟩
theorem repd_neg {t : Tm} {n s : Int} {rs : Pol} (hn : 0 < n) (hp : rs.Perm (t.rs ++ [(n, -s)])) : Repd t n s ⟨t.pl + (n - 1) * s, t.co, rs⟩ := ⟨fun x => by
  show t.co * wy rs (x - (t.pl + (n - 1) * s)) = rsum (fun y => t.co * wy t.rs (y - t.pl)) s n.toNat x
  rw [rsum_mul, rsum_move (fun z => wy t.rs z), wy_perm (hp.trans List.perm_append_comm)]
  obtain ⟨m, hm⟩ : ∃ m : Nat, n.toNat = m + 1 := ⟨n.toNat - 1, by omega⟩
  have hm2 : n - 1 = (m : Int) := by omega
  rw [hm, rsum_back, hm2]
  show t.co * rsum _ (-s) n.toNat _ = _
  rw [hm]
  congr 2
  omega⟩
theorem tvs_rep {n s : Int} : ∀ {ts ts' : List Tm}, Paired (fun t t' => Repd t n s t') ts ts' → ∀ x, tvs ts' x = rsum (fun y => tvs ts y) s n.toNat x
  | [], [], _, x => by
    show 0 = rsum (fun _ => 0) s n.toNat x
    rw [rsum_zero]
  | t :: ts, t' :: ts', .cons h q, x => by
    show tv t' x + tvs ts' x = rsum (fun y => tv t y + tvs ts y) s n.toNat x
    rw [rsum_add (fun y => tv t y) (fun y => tvs ts y), h.val, tvs_rep q]
/-! ### the count of pairs -/
theorem div_step {P : Int} (hP : 0 < P) (u : Int) : u / P - (u - 1) / P = if P ∣ u then 1 else 0 := by
  by_cases h : P ∣ u
  · rw [if_pos h]
    obtain ⟨k, rfl⟩ := h
    have e1 : P * k / P = k := Int.mul_ediv_cancel_left k (by omega)
    have e2 : (P * k - 1) / P = k - 1 := by
      have : P * k - 1 = (P - 1) + P * (k - 1) := by rw [Int.mul_sub, Int.mul_one]; omega
      rw [this, Int.add_mul_ediv_left _ _ (by omega), Int.ediv_eq_zero_of_lt (by omega) (by omega)]
      omega
    rw [e1, e2]
    omega
  · rw [if_neg h]
    have h1 := Int.emod_add_mul_ediv u P
    have h2 := Int.emod_nonneg u (show P ≠ 0 by omega)
    have h3 := Int.emod_lt_of_pos u hP
    have h4 : u % P ≠ 0 := fun z => h (Int.dvd_of_emod_eq_zero z)
    generalize u % P = r at h1 h2 h3 h4
    have e : (u - 1) / P = u / P := by
      generalize u / P = q at h1
      have : u - 1 = (r - 1) + P * q := by omega
      rw [this, Int.add_mul_ediv_left _ _ (by omega), Int.ediv_eq_zero_of_lt (by omega) (by omega), Int.zero_add]
    omega
theorem div_mono {P : Int} (hP : 0 < P) {u v : Int} (h : u ≤ v) : u / P ≤ v / P := Int.ediv_le_ediv hP h
def cnt (L G P r : Int) : Nat → Int
  | 0 => 0
  | n + 1 => cnt L G P r n + if L ≤ (n : Int) ∧ (n : Int) ≤ G ∧ P ∣ (n : Int) - r then 1 else 0
theorem cnt_eq {L G P r : Int} (hP : 0 < P) : ∀ n : Nat, cnt L G P r n = max 0 ((min ((n : Int) - 1) G - r) / P - (max 0 L - 1 - r) / P)
  | 0 => by
    have h := div_mono hP (u := min (((0 : Nat) : Int) - 1) G - r) (v := max 0 L - 1 - r) (by omega)
    show (0 : Int) = _
    omega
  | n + 1 => by
    show cnt L G P r n + _ = _
    rw [cnt_eq hP n]
    by_cases h1 : (n : Int) < max 0 L
    · rw [if_neg (by omega)]
      have a := div_mono hP (u := min ((n : Int) - 1) G - r) (v := max 0 L - 1 - r) (by omega)
      have b := div_mono hP (u := min (((n + 1 : Nat) : Int) - 1) G - r) (v := max 0 L - 1 - r) (by omega)
      omega
    · by_cases h2 : (n : Int) ≤ G
      · have e1 : min (((n + 1 : Nat) : Int) - 1) G = (n : Int) := by omega
        have e2 : min ((n : Int) - 1) G = (n : Int) - 1 := by omega
        rw [e1, e2]
        have a := div_mono hP (u := max 0 L - 1 - r) (v := (n : Int) - 1 - r) (by omega)
        have b := div_mono hP (u := max 0 L - 1 - r) (v := (n : Int) - r) (by omega)
        have c := div_step hP ((n : Int) - r)
        rw [show (n : Int) - r - 1 = (n : Int) - 1 - r by omega] at c
        by_cases h3 : P ∣ (n : Int) - r
        · rw [if_pos ⟨by omega, h2, h3⟩]
          rw [if_pos h3] at c
          omega
        · rw [if_neg (fun z => h3 z.2.2)]
          rw [if_neg h3] at c
          omega
      · rw [if_neg (by omega)]
        have e1 : min (((n + 1 : Nat) : Int) - 1) G = G := by omega
        have e2 : min ((n : Int) - 1) G = G := by omega
        rw [e1, e2, Int.add_zero]
/-- one round -/
theorem wy_one {b : Int} (hb : 0 < b) : ∀ (m : Nat) (e : Int), rsum (fun y => if y = 0 then (1 : Int) else 0) b m e = if b ∣ e ∧ 0 ≤ e ∧ e < m * b then 1 else 0
  | 0, e => by
    rw [if_neg (by rintro ⟨_, h1, h2⟩; simp at h2; omega)]
    rfl
  | m + 1, e => by
    show rsum _ b m e + (if e - m * b = 0 then 1 else 0) = _
    rw [wy_one hb m e, Int.natCast_succ, Int.add_mul, Int.one_mul]
    have hmb : 0 ≤ (m : Int) * b := Int.mul_nonneg (by omega) (by omega)
    by_cases h : e - m * b = 0
    · have he : e = m * b := by omega
      rw [if_pos h, if_neg (by omega), if_pos ⟨by rw [he]; exact Int.dvd_mul_left _ _, by omega, by omega⟩]
      try rfl
    · rw [if_neg h, Int.add_zero]
      by_cases h2 : b ∣ e ∧ 0 ≤ e ∧ e < m * b
      · rw [if_pos h2, if_pos ⟨h2.1, h2.2.1, by omega⟩]
      · rw [if_neg h2, if_neg fun z => ?_]
        obtain ⟨k, rfl⟩ := z.1
        apply h2
        refine ⟨z.1, z.2.1, ?_⟩
        have h3 : b * k < b * ((m : Int) + 1) := by rw [Int.mul_add, Int.mul_one, Int.mul_comm b m]; exact z.2.2
        have h4 : k < (m : Int) + 1 := Int.lt_of_mul_lt_mul_left h3 (by omega)
        have h5 : k ≠ (m : Int) := fun q => h (by rw [q, Int.mul_comm]; omega)
        have h6 : b * k < b * (m : Int) := Int.mul_lt_mul_of_pos_left (by omega) hb
        rw [Int.mul_comm b m] at h6
        exact h6
/-- two rounds: the pairs of an equation -/
theorem wy_two {a b d g f : Int} {m : Nat} (ha : 0 < a) (hb : 0 < b) (hg : 0 < g) (ga : g ∣ a) (gb : g ∣ b) (hf : b ∣ a * f - g) (gd : g ∣ d) : ∀ n : Nat,
    rsum (fun y => rsum (fun z => if z = 0 then (1 : Int) else 0) b m y) a n d = cnt (-((b * ((m : Int) - 1) - d) / a)) (d / a) (b / g) (d / g * f % (b / g)) n
  | 0 => rfl
  | n + 1 => by
    show rsum _ a n d + rsum _ b m (d - n * a) = cnt _ _ _ _ n + _
    rw [wy_two ha hb hg ga gb hf gd n, wy_one hb]
    congr 1
    obtain ⟨a', rfl⟩ := ga
    obtain ⟨P, rfl⟩ := gb
    obtain ⟨d', rfl⟩ := gd
    have hP : 0 < P := Int.pos_of_mul_pos_right hb (by omega)
    have e1 : g * P / g = P := Int.mul_ediv_cancel_left P (by omega)
    have e2 : g * d' / g = d' := Int.mul_ediv_cancel_left d' (by omega)
    rw [e1, e2]
    -- a' * f is 1 modulo P
    have hf' : P ∣ a' * f - 1 := by
      obtain ⟨t, ht⟩ := hf
      refine ⟨t, ?_⟩
      have : g * (a' * f - 1) = g * (P * t) := by
        rw [Int.mul_sub, Int.mul_one, ← Int.mul_assoc, ← Int.mul_assoc]
        exact ht
      exact Int.eq_of_mul_eq_mul_left (by omega) this
    have key : (g * P ∣ g * d' - n * (g * a')) ↔ P ∣ (n : Int) - d' * f % P := by
      have r1 : P ∣ (n : Int) - d' * f % P ↔ P ∣ (n : Int) - d' * f := by
        have h := Int.emod_add_mul_ediv (d' * f) P
        constructor
        · rintro ⟨t, ht⟩
          exact ⟨t - d' * f / P, by rw [Int.mul_sub]; omega⟩
        · rintro ⟨t, ht⟩
          exact ⟨t + d' * f / P, by rw [Int.mul_add]; omega⟩
      rw [r1]
      obtain ⟨t, ht⟩ := hf'
      have e3 : g * d' - (n : Int) * (g * a') = g * (d' - n * a') := by
        rw [Int.mul_sub, ← Int.mul_assoc, ← Int.mul_assoc, Int.mul_comm (n : Int) g]
      rw [e3]
      constructor
      · rintro ⟨u, hu⟩
        rw [Int.mul_assoc] at hu
        have hu' : d' - n * a' = P * u := Int.eq_of_mul_eq_mul_left (by omega) hu
        -- n = n a' f - n P t ; d' f = (P u + n a') f
        refine ⟨-(u * f) - n * t, ?_⟩
        have h5 : d' = P * u + n * a' := by omega
        rw [h5, Int.add_mul, Int.mul_sub, Int.mul_neg]
        have h6 : (n : Int) * a' * f = n * (P * t) + n := by
          rw [Int.mul_assoc, show a' * f = P * t + 1 by omega, Int.mul_add, Int.mul_one]
        rw [h6, ← Int.mul_assoc P u f, ← Int.mul_assoc (n : Int) P t, ← Int.mul_assoc P (n : Int) t, Int.mul_comm P (n : Int)]
        omega
      · rintro ⟨u, hu⟩
        refine ⟨-(u * a') - d' * t, ?_⟩
        rw [Int.mul_assoc]
        congr 1
        have h5 : (n : Int) = P * u + d' * f := by omega
        have h6 : d' * f * a' = d' * (P * t) + d' := by
          rw [Int.mul_assoc, Int.mul_comm f a', show a' * f = P * t + 1 by omega, Int.mul_add, Int.mul_one]
        rw [h5, Int.add_mul, h6, Int.mul_sub, Int.mul_neg, ← Int.mul_assoc P u a', ← Int.mul_assoc d' P t, ← Int.mul_assoc P d' t, Int.mul_comm P d']
        omega
    have low : (0 ≤ g * d' - n * (g * a')) ↔ (n : Int) ≤ g * d' / (g * a') := by
      rw [Int.le_ediv_iff_mul_le ha]
      omega
    have high : g * P ∣ g * d' - n * (g * a') → ((g * d' - n * (g * a') < m * (g * P)) ↔ -((g * P * ((m : Int) - 1) - g * d') / (g * a')) ≤ (n : Int)) := by
      rintro ⟨u, hu⟩
      have h1 : (g * d' - n * (g * a') < m * (g * P)) ↔ g * d' - n * (g * a') ≤ g * P * ((m : Int) - 1) := by
        rw [hu, Int.mul_comm (m : Int)]
        constructor
        · intro h
          have := Int.lt_of_mul_lt_mul_left h (by omega)
          exact Int.mul_le_mul_of_nonneg_left (by omega) (by omega)
        · intro h
          have := Int.le_of_mul_le_mul_left h hb
          exact Int.mul_lt_mul_of_pos_left (by omega) hb
      rw [h1]
      have h2 : -(n : Int) ≤ (g * P * ((m : Int) - 1) - g * d') / (g * a') ↔ -(n : Int) * (g * a') ≤ g * P * ((m : Int) - 1) - g * d' := Int.le_ediv_iff_mul_le ha
      rw [Int.neg_mul] at h2
      constructor
      · intro h
        have := h2.mpr (by omega)
        omega
      · intro h
        have := h2.mp (by omega)
        omega
    by_cases hd : g * P ∣ g * d' - n * (g * a')
    · have hh := high hd
      by_cases hc : 0 ≤ g * d' - n * (g * a') ∧ g * d' - n * (g * a') < m * (g * P)
      · rw [if_pos ⟨hd, hc⟩, if_pos ⟨hh.mp hc.2, low.mp hc.1, key.mp hd⟩]
      · rw [if_neg (fun z => hc z.2), if_neg (fun z => hc ⟨low.mpr z.2.1, hh.mpr z.1⟩)]
    · rw [if_neg (fun z => hd z.1), if_neg (fun z => hd (key.mpr z.2.2))]
/-- no pair where the divisor does not divide -/
theorem wy_none {a b d g : Int} {m : Nat} (hb : 0 < b) (ga : g ∣ a) (gb : g ∣ b) (gd : ¬ g ∣ d) : ∀ n : Nat, rsum (fun y => rsum (fun z => if z = 0 then (1 : Int) else 0) b m y) a n d = 0
  | 0 => rfl
  | n + 1 => by
    show rsum _ a n d + rsum _ b m (d - n * a) = 0
    rw [wy_none hb ga gb gd n, wy_one hb, if_neg fun z => ?_]
    · rfl
    · obtain ⟨a', rfl⟩ := ga
      have h1 := Int.dvd_trans gb z.1
      have h2 : g ∣ (n : Int) * (g * a') := ⟨n * a', by rw [← Int.mul_assoc, ← Int.mul_assoc, Int.mul_comm (n : Int) g]⟩
      have h3 := Int.dvd_add h1 h2
      rw [Int.sub_add_cancel] at h3
      exact gd h3
end DR
namespace DR
open PySem PySem.Spec PyProof.Rows L2
theorem ediv_bd {d g : Int} (hg : 0 < g) : (d / g).natAbs ≤ d.natAbs := by
  have h1 := Int.emod_add_mul_ediv d g
  have h2 := Int.emod_nonneg d (show g ≠ 0 by omega)
  have h3 := Int.emod_lt_of_pos d hg
  by_cases h0 : 0 ≤ d
  · have a := Int.ediv_nonneg h0 (show 0 ≤ g by omega)
    have b := Int.ediv_le_self g h0
    omega
  · have a : d ≤ d / g := (Int.le_ediv_iff_mul_le hg).mpr (by
      have := Int.mul_le_mul_of_nonpos_left (show d ≤ 0 by omega) (show (1 : Int) ≤ g by omega)
      rw [Int.mul_one] at this
      exact this)
    have b : d / g < 0 := Int.ediv_neg_of_neg_of_pos (by omega) hg
    omega
def RsOk (rs : Pol) : Prop := ∀ r ∈ rs, 1 ≤ r.1 ∧ r.1 ≤ 2 ^ 100 ∧ 1 ≤ r.2 ∧ r.2 ≤ 2 ^ 331
def TermV (K : PySem.W.Frag) (H : Hp) (v : V) (t : Tm) : Prop := ∃ a x, v = .ref a ∧ SqT K H a [.int t.pl, .int t.co, x] ∧ TPol K H x t.rs
abbrev TVs (K : PySem.W.Frag) (H : Hp) : List V → List Tm → Prop := Paired (TermV K H)
section
variable {K : PySem.W.Frag} {H H' : Hp} {v x : V} {t : Tm} {xs ys : List V} {ts us : List Tm}
theorem TermV.tp (e : Tp H H') (h : TermV K H v t) : TermV K H' v t := by
  obtain ⟨a, x, rfl, hs, hx⟩ := h
  exact ⟨a, x, rfl, tp_t e hs, hx.tp e⟩
theorem TVs.tp (e : Tp H H') : ∀ {xs : List V} {ts : List Tm}, TVs K H xs ts → TVs K H' xs ts
  | _, _, .nil => .nil
  | _, _, .cons r q => .cons (r.tp e) (TVs.tp e q)
theorem TVs.app : ∀ {xs : List V} {ts : List Tm}, TVs K H xs ts → TVs K H ys us → TVs K H (xs ++ ys) (ts ++ us)
  | _, _, .nil, h => h
  | _, _, .cons r q, h => .cons r (TVs.app q h)
theorem TVs.len (h : TVs K H xs ts) : xs.length = ts.length := Paired.length h
theorem TVs.get : ∀ {xs : List V} {ts : List Tm} {i : Nat} {x : V}, TVs K H xs ts → xs[i]? = some x → ∃ t, ts[i]? = some t ∧ TermV K H x t
  | _, _, _, _, .nil, e => by simp at e
  | _, _, 0, _, .cons r _, e => by
    simp at e
    subst e
    exact ⟨_, rfl, r⟩
  | _, _, i + 1, x, .cons _ q, e => by
    obtain ⟨t, h1, h2⟩ := TVs.get (i := i) (x := x) q (by simpa using e)
    exact ⟨t, by simpa using h1, h2⟩
end
/-- bounds of a term of a program run from pl -/
structure TOk (k : Nat) (T pl : Int) (t : Tm) : Prop where
  at_ : ((t.pl - pl).natAbs : Int) ≤ T
  co : t.co.natAbs ≤ 2 ^ (100 * k)
  len : t.rs.length + 1 ≤ k
  rs : RsOk t.rs
theorem TOk.up {k k' : Nat} {T T' pl : Int} {t : Tm} (h : TOk k T pl t) (a : k ≤ k') (b : T ≤ T') : TOk k' T' pl t := ⟨Int.le_trans h.at_ b, Nat.le_trans h.co (pow_le2 (by omega)), Nat.le_trans h.len a, h.rs⟩
def sp_common_divisor : Sp := fun vs H Q _ => ∃ (a b : Int), vs = [.int a, .int b] ∧ 0 < a ∧ 0 < b ∧ a.natAbs < 2 ^ 400 ∧ b.natAbs < 2 ^ 400 ∧
  ∀ t H' g f, Same H H' → H' t = some (.tup [.int g, .int f]) → 0 < g → g ∣ a → g ∣ b → b ∣ a * f - g → f.natAbs ≤ b.natAbs → Q (.ref t) H'
def sp_pairs_at (K : PySem.W.Frag) : Sp := fun vs H Q _ => ∃ (x y : V) (n a m b d : Int), vs = [x, y, .int d] ∧ IsPr K H x (n, a) ∧ IsPr K H y (m, b) ∧ 1 ≤ n ∧ n ≤ 2 ^ 100 ∧ 1 ≤ m ∧ m ≤ 2 ^ 100 ∧ 1 ≤ a ∧ a ≤ 2 ^ 331 ∧ 1 ≤ b ∧ b ≤ 2 ^ 331 ∧ d.natAbs < 2 ^ 400 ∧
  ∀ H', Same H H' → Q (.int (wy [(n, a), (m, b)] d)) H'
def sp_ways_at (K : PySem.W.Frag) : Sp := fun vs H Q _ => ∃ (v : V) (rs : Pol) (d : Int), vs = [v, .int d] ∧ TPol K H v rs ∧ rs.length ≤ 2 ∧ RsOk rs ∧ d.natAbs < 2 ^ 400 ∧ ∀ H', Same H H' → Q (.int (wy rs d)) H'
def sp_repeated (K : PySem.W.Frag) : Sp := fun vs H Q _ => ∃ (v : V) (t : Tm) (n s : Int) (k : Nat) (T pl : Int), vs = [v, .int n, .int s] ∧ TermV K H v t ∧ TOk k T pl t ∧ k ≤ 2 ∧ 1 ≤ n ∧ n ≤ 2 ^ 100 ∧ (s.natAbs : Int) ≤ T ∧ s.natAbs ≤ 2 ^ 331 ∧
  ∀ u H' t', Same H H' → TermV K H' u t' → Repd t n s t' → TOk (k + 1) (n * T) pl t' → Q u H'
def sp_terms_of (K : PySem.W.Frag) (k : Nat) : Sp := fun vs H Q _ => ∃ (v : V) (pl : Int) (b : List Ins), vs = [v, .int pl] ∧ PV K H v b ∧ dpP b < k ∧ k ≤ 3 ∧ WP b ∧ NP b ∧ cnP b ≤ 1024 ∧
  ∀ D ys ts H', Same H H' → H D = none → H' D = some (.lst ys) → TVs K H' ys ts → (∀ x, tvs ts x = seP b (x - pl)) → (∀ t ∈ ts, TOk k (trP b) pl t) → ts.length ≤ cnP b → Q (.ref D) H'
def sp_value_of (K : PySem.W.Frag) : Sp := fun vs H Q _ => ∃ (p : Int) (D : Addr) (ys : List V) (ts : List Tm) (x pl T : Int), vs = [.int p, .ref D, .int x] ∧ 0 < p ∧ SqL K H D ys ∧ TVs K H ys ts ∧ ts.length ≤ 100000 ∧ (∀ t ∈ ts, TOk 3 T pl t) ∧ T.natAbs ≤ 2 ^ 330 ∧ (x - pl).natAbs ≤ 2 ^ 340 ∧
  ∀ H', Same H H' → Q (.int (tvs ts x % p)) H'
def sp_value_at (K : PySem.W.Frag) : Sp := fun vs H Q _ => ∃ (p : Int) (v : V) (x : Int) (b : List Ins), vs = [.int p, v, .int x] ∧ 0 < p ∧ PV K H v b ∧ dpP b < 3 ∧ WP b ∧ NP b ∧ cnP b ≤ 1024 ∧ x.natAbs ≤ 2 ^ 340 ∧
  ∀ H', Same H H' → Q (.int (seP b x % p)) H'
theorem wy_pad0 (d : Int) : wy [(1, 1), (1, 1)] d = wy [] d := by
  show (0 + (0 + if d - ((0 : Nat) : Int) * 1 - ((0 : Nat) : Int) * 1 = 0 then (1 : Int) else 0)) = if d = 0 then 1 else 0
  simp
theorem wy_pad1 (r : Int × Int) (d : Int) : wy [r, (1, 1)] d = wy [r] d := by
  rw [wy_cons, wy_cons]
  refine rsum_congr (fun y => ?_) _ _
  show (0 + if y - ((0 : Nat) : Int) * 1 = 0 then (1 : Int) else 0) = if y = 0 then 1 else 0
  simp
theorem wy_bd : ∀ (rs : Pol) (d : Int), 0 ≤ wy rs d ∧ wy rs d ≤ (rs.map fun r => (r.1.toNat : Int)).foldr (· * ·) 1
  | [], d => by
    rw [wy_nil]
    show _ ∧ _ ≤ (1 : Int)
    split <;> omega
  | r :: rs, d => by
    rw [wy_cons]
    exact rsum_bd (fun x => wy_bd rs x) _ _
theorem wy_lt {rs : Pol} (h : RsOk rs) (hl : rs.length ≤ 2) (d : Int) : (wy rs d).natAbs < 2 ^ 201 := by
  have hb := wy_bd rs d
  have e : ∀ r ∈ rs, (r.1.toNat : Int) ≤ 2 ^ 100 := fun r hr => by
    have := h r hr
    omega
  have hM : (rs.map fun r => (r.1.toNat : Int)).foldr (· * ·) 1 ≤ 2 ^ 200 := by
    match rs, hl, e with
    | [], _, _ => decide
    | [r], _, e =>
      have := e r (by simp)
      show (r.1.toNat : Int) * 1 ≤ _
      rw [Int.mul_one]
      exact Int.le_trans this (by decide +kernel)
    | [r, q], _, e =>
      have h1 := e r (by simp)
      have h2 := e q (by simp)
      show (r.1.toNat : Int) * ((q.1.toNat : Int) * 1) ≤ _
      rw [Int.mul_one]
      exact Int.le_trans (Int.mul_le_mul h1 h2 (by omega) (by decide +kernel)) (by decide +kernel)
  have h2 : (2 : Nat) ^ 200 < 2 ^ 201 := by decide +kernel
  have h3 : ((2 : Int) ^ 200) = ((2 ^ 200 : Nat) : Int) := by decide +kernel
  omega
/-- [an int for x, y, z in a list of terms] -/
theorem lcTm {K : PySem.W.Frag} {a : Addr} {xs : List V} {ts : List Tm} {σ : L2.St} {H : Hp} {vs : List Nat} {i j l : Nat} {te tv' : TE} {Q : VK} (G : Tm → Int) (hv : ∀ R : VK, R (.ref a) H → tv' σ H R) (hs : SqL K H a xs) (hP : TVs K H xs ts) (hl : ts.length ≤ 100000)
    (hw : ∀ x y z, wipe ((((wipe σ vs).set i (some x)).set j (some y)).set l (some z)) vs = wipe σ vs)
    (he : ∀ t ∈ ts, ∀ x H2, Same H H2 → TPol K H2 x t.rs → ∀ R : VK, (∀ H3, Same H2 H3 → R (.int (G t)) H3) → te ((((wipe σ vs).set i (some (.int t.pl))).set j (some (.int t.co))).set l (some x)) H2 R)
    (k : ∀ D H2, H D = none → Same H H2 → H2 D = some (.lst ((ts.map G).map V.int)) → Q (.ref D) H2) : tLc (iList K tv') (gTup K 3 (gCons (gName i) (gCons (gName j) (gCons (gName l) gNil)))) tYes te vs σ H Q := by
  refine hv _ ⟨a, rfl, ⟨_, hs⟩, fun D nD => lc_list (K := K) (a := a) (xs := xs) (fun m H2 => Same H H2 ∧ H2 D = some (.lst (((ts.take m).map G).map V.int))) ⟨same_new nD, upd_same⟩ (fun m H2 _ g => same_l g.1 hs) ?_ ?_⟩
  · rintro m x H2 hm ⟨s2, h2⟩
    obtain ⟨t, ht, b, y, rfl, hb, hy⟩ := hP.get hm
    refine ⟨b, _, rfl, same_t s2 hb, rfl, _, _, rfl, _, _, rfl, _, _, rfl, rfl, hw _ _ _, ?_⟩
    dsimp only [tYes]
    rw [if_pos rfl]
    have hm2 : m < ts.length := (List.getElem?_eq_some_iff.mp ht).1
    refine he t (List.mem_of_getElem? ht) y H2 s2 (hy.tp (Same.tp s2)) _ fun H3 s3 => ⟨_, s3 _ _ h2, sl_lt (by rw [List.length_map, List.length_map, List.length_take]; omega), same_mut (s2.trans s3) nD, ?_⟩
    rw [upd_same, take_snoc ht, List.map_append, List.map_append]
    rfl
  · rintro H2 ⟨s2, h2⟩
    rw [hP.len, List.take_length] at h2
    exact k D H2 nD s2 h2
/-- [repeated(term) for term in a list of terms] -/
theorem lcRep {K : PySem.W.Frag} {a : Addr} {xs : List V} {ts : List Tm} {σ : L2.St} {H : Hp} {vs : List Nat} {i : Nat} {te tv' : TE} {Q : VK} (P : Tm → Tm → Prop) (hv : ∀ R : VK, R (.ref a) H → tv' σ H R) (hs : H a = some (.lst xs)) (hP : TVs K H xs ts) (hl : ts.length ≤ 100000)
    (hw : ∀ x, wipe ((wipe σ vs).set i (some x)) vs = wipe σ vs)
    (he : ∀ t ∈ ts, ∀ x H2, Same H H2 → TermV K H2 x t → ∀ R : VK, (∀ u t' H3, Same H2 H3 → TermV K H3 u t' → P t t' → R u H3) → te ((wipe σ vs).set i (some x)) H2 R)
    (k : ∀ D H2 ys us, H D = none → Same H H2 → H2 D = some (.lst ys) → TVs K H2 ys us → Paired P ts us → Q (.ref D) H2) : tLc (iList K tv') (gName i) tYes te vs σ H Q := by
  refine hv _ ⟨a, rfl, ⟨_, SqL.of hs⟩, fun D nD => lc_list (K := K) (a := a) (xs := xs) (fun m H2 => Same H H2 ∧ ∃ ys us, H2 D = some (.lst ys) ∧ TVs K H2 ys us ∧ Paired P (ts.take m) us) ⟨same_new nD, [], [], upd_same, .nil, by rw [List.take_zero]; exact .nil⟩ (fun m H2 _ g => SqL.of (g.1 _ _ hs)) ?_ ?_⟩
  · rintro m x H2 hm ⟨s2, ys, us, h2, hY, hPd⟩
    obtain ⟨t, ht, hx⟩ := hP.get hm
    refine ⟨hw _, ?_⟩
    dsimp only [tYes]
    rw [if_pos rfl]
    have hm2 : m < ts.length := (List.getElem?_eq_some_iff.mp ht).1
    have hyl : ys.length ≤ m := by
      rw [hY.len, ← Paired.length hPd, List.length_take]
      omega
    refine he t (List.mem_of_getElem? ht) x H2 s2 (hx.tp (Same.tp s2)) _ fun u t' H3 s3 hu hp => ⟨ys, s3 _ _ h2, sl_lt (by omega), same_mut (s2.trans s3) nD, ys ++ [u], us ++ [t'], upd_same, TVs.app (hY.tp ((Same.tp s3).trans (tp_lst (s3 _ _ h2)))) (.cons (hu.tp (tp_lst (s3 _ _ h2))) .nil), ?_⟩
    rw [take_snoc ht]
    have app : ∀ {l1 l2 : List Tm}, Paired P l1 l2 → Paired P (l1 ++ [t]) (l2 ++ [t']) := by
      intro l1 l2 h
      induction h with
      | nil => exact .cons hp .nil
      | cons r _ ih => exact .cons r ih
    exact app hPd
  · rintro H2 ⟨s2, ys, us, h2, hY, hPd⟩
    rw [hP.len, List.take_length] at hPd
    exact k D H2 ys us nD s2 h2 hY hPd
theorem lcRepG {K : PySem.W.Frag} {σ : L2.St} {H : Hp} {vs : List Nat} {i : Nat} {te tv' : TE} {Q : VK} (P : Tm → Tm → Prop) (Z : List Tm → Prop) (hv : ∀ R : VK, (∀ a xs ts H1, Same H H1 → H1 a = some (.lst xs) → TVs K H1 xs ts → Z ts → R (.ref a) H1) → tv' σ H R) (hZ : ∀ ts, Z ts → ts.length ≤ 100000)
    (hw : ∀ x, wipe ((wipe σ vs).set i (some x)) vs = wipe σ vs)
    (he : ∀ ts, Z ts → ∀ t ∈ ts, ∀ x H2, Same H H2 → TermV K H2 x t → ∀ R : VK, (∀ u t' H3, Same H2 H3 → TermV K H3 u t' → P t t' → R u H3) → te ((wipe σ vs).set i (some x)) H2 R)
    (k : ∀ D H2 ys ts us, H D = none → Same H H2 → H2 D = some (.lst ys) → TVs K H2 ys us → Z ts → Paired P ts us → Q (.ref D) H2) : tLc (iList K tv') (gName i) tYes te vs σ H Q := by
  refine hv _ fun a xs ts H1 s1 hs hP hz => ?_
  have hl := hZ ts hz
  have nn : ∀ {D : Addr}, H1 D = none → H D = none := fun {D} n => by
    cases hh : H D with
    | none => rfl
    | some o => rw [s1 _ _ hh] at n; cases n
  refine ⟨a, rfl, ⟨_, SqL.of hs⟩, fun D nD => lc_list (K := K) (a := a) (xs := xs) (fun m H2 => Same H1 H2 ∧ ∃ ys us, H2 D = some (.lst ys) ∧ TVs K H2 ys us ∧ Paired P (ts.take m) us) ⟨same_new nD, [], [], upd_same, .nil, by rw [List.take_zero]; exact .nil⟩ (fun m H2 _ g => SqL.of (g.1 _ _ hs)) ?_ ?_⟩
  · rintro m x H2 hm ⟨s2, ys, us, h2, hY, hPd⟩
    obtain ⟨t, ht, hx⟩ := hP.get hm
    refine ⟨hw _, ?_⟩
    dsimp only [tYes]
    rw [if_pos rfl]
    have hm2 : m < ts.length := (List.getElem?_eq_some_iff.mp ht).1
    have hyl : ys.length ≤ m := by
      rw [hY.len, ← Paired.length hPd, List.length_take]
      omega
    refine he ts hz t (List.mem_of_getElem? ht) x H2 (s1.trans s2) (hx.tp (Same.tp s2)) _ fun u t' H3 s3 hu hp => ⟨ys, s3 _ _ h2, sl_lt (by omega), same_mut (s2.trans s3) nD, ys ++ [u], us ++ [t'], upd_same, TVs.app (hY.tp ((Same.tp s3).trans (tp_lst (s3 _ _ h2)))) (.cons (hu.tp (tp_lst (s3 _ _ h2))) .nil), ?_⟩
    rw [take_snoc ht]
    have app : ∀ {l1 l2 : List Tm}, Paired P l1 l2 → Paired P (l1 ++ [t]) (l2 ++ [t']) := by
      intro l1 l2 h
      induction h with
      | nil => exact .cons hp .nil
      | cons r _ ih => exact .cons r ih
    exact app hPd
  · rintro H2 ⟨s2, ys, us, h2, hY, hPd⟩
    rw [hP.len, List.take_length] at hPd
    exact k D H2 ys ts us (nn nD) (s1.trans s2) h2 hY hz hPd
theorem trP_app : ∀ (a b : List Ins), trP (a ++ b) = trP a + trP b
  | [], b => by rw [List.nil_append, trP_nil, Int.zero_add]
  | i :: r, b => by rw [List.cons_append, trP_cons, trP_cons, trP_app r b, Int.add_assoc]
theorem trP_snoc {b : List Ins} {j : Nat} {i : Ins} (h : b[j]? = some i) : trP (b.take (j + 1)) = trP (b.take j) + trI i := by
  rw [take_snoc h, trP_app, trP_cons, trP_nil, Int.add_zero]
theorem trP_take : ∀ (b : List Ins) (j : Nat), trP (b.take j) ≤ trP b
  | [], _ => by rw [List.take_nil]; exact Int.le_refl _
  | i :: r, 0 => by
    rw [List.take_zero, trP_nil]
    exact trP_nn _
  | i :: r, j + 1 => by
    rw [List.take_succ_cons, trP_cons, trP_cons]
    have := trP_take r j
    omega
theorem cnP_snoc' {b : List Ins} {j : Nat} {i : Ins} (h : b[j]? = some i) : cnP (b.take (j + 1)) = cnP (b.take j) + cnI i := by
  rw [take_snoc h, cnP_app, cnP_cons, show cnP [] = 0 by unfold cnP; rfl]
  rfl
theorem cnP_take' : ∀ (b : List Ins) (j : Nat), cnP (b.take j) ≤ cnP b
  | [], _ => by rw [List.take_nil]; exact Nat.le_refl _
  | i :: r, 0 => by rw [List.take_zero, show cnP [] = 0 by unfold cnP; rfl]; exact Nat.zero_le _
  | i :: r, j + 1 => by
    rw [List.take_succ_cons, cnP_cons, cnP_cons]
    have := cnP_take' r j
    omega
theorem prs_perm {K : PySem.W.Frag} {H : Hp} {ys zs : List V} (h : ys.Perm zs) : ∀ {f : Pol}, Prs K H zs f → ∃ g, Prs K H ys g ∧ g.Perm f := by
  induction h with
  | nil =>
    intro f hf
    cases hf
    exact ⟨[], .nil, .nil⟩
  | cons x _ ih =>
    intro f hf
    cases hf with
    | cons r q =>
      obtain ⟨g, h1, h2⟩ := ih q
      exact ⟨_ :: g, .cons r h1, h2.cons _⟩
  | swap x y l =>
    intro f hf
    cases hf with
    | cons r q =>
      cases q with
      | cons r2 q2 => exact ⟨_, .cons r2 (.cons r q2), .swap _ _ _⟩
  | trans _ _ h1 h2 =>
    intro f hf
    obtain ⟨g, a1, a2⟩ := h2 hf
    obtain ⟨g', b1, b2⟩ := h1 a1
    exact ⟨g', b1, b2.trans a2⟩
end DR
/-! ### the least and the greatest place where a sum of terms is not 0 -/
namespace DR
open PySem PySem.Spec PyProof.Rows L2
/-- nothing is left far away -/
def Near (p : Int) (F : Int → Int) : Prop := ∃ B : Nat, ∀ x : Int, B < x.natAbs → p ∣ F x
/-- the greatest and the least place with something left -/
structure Ends1 (p : Int) (F : Int → Int) (lo hi : Int) : Prop where
  atLo : ¬ p ∣ F lo
  atHi : ¬ p ∣ F hi
  below : ∀ x, x < lo → p ∣ F x
  above : ∀ x, hi < x → p ∣ F x
def less (s : Int) (F : Int → Int) : Int → Int := fun x => F x - F (x - s)
theorem dvd_sub_iff {p a b : Int} (h : p ∣ a - b) : p ∣ a ↔ p ∣ b :=
  ⟨fun q => by have := Int.dvd_sub q h; rwa [show a - (a - b) = b by omega] at this, fun q => by have := Int.dvd_add h q; rwa [show a - b + b = a by omega] at this⟩
theorem down_to {p s : Int} {F : Int → Int} {m : Int} (h : ∀ x, x < m → p ∣ less s F x) (hs : 0 < s) : ∀ (k : Nat) (x : Int), x < m → (p ∣ F x ↔ p ∣ F (x - k * s))
  | 0, x, _ => by
    rw [show x - ((0 : Nat) : Int) * s = x by rw [Int.natCast_zero, Int.zero_mul, Int.sub_zero]]
  | k + 1, x, hx => by
    rw [dvd_sub_iff (h x hx), down_to h hs k (x - s) (by omega)]
    rw [show x - s - (k : Int) * s = x - ((k + 1 : Nat) : Int) * s by rw [Int.natCast_succ, Int.add_mul, Int.one_mul]; omega]
theorem up_to {p s : Int} {F : Int → Int} {m : Int} (h : ∀ x, m < x → p ∣ less s F x) (hs : 0 < s) : ∀ (k : Nat) (x : Int), m < x + s → (p ∣ F x ↔ p ∣ F (x + k * s))
  | 0, x, _ => by
    rw [show x + ((0 : Nat) : Int) * s = x by rw [Int.natCast_zero, Int.zero_mul, Int.add_zero]]
  | k + 1, x, hx => by
    have q := h (x + s) hx
    unfold less at q
    rw [show x + s - s = x by omega] at q
    rw [← dvd_sub_iff q, up_to h hs k (x + s) (by omega)]
    rw [show x + s + (k : Int) * s = x + ((k + 1 : Nat) : Int) * s by rw [Int.natCast_succ, Int.add_mul, Int.one_mul]; omega]
theorem mul_ge {s : Int} (hs : 0 < s) (k : Nat) : (k : Int) ≤ k * s := by
  have := Int.mul_le_mul_of_nonneg_left (show 1 ≤ s by omega) (Int.natCast_nonneg k)
  rwa [Int.mul_one] at this
/-- what divides each difference with the place a stride before, divides each value -/
theorem none_left {p s : Int} {F : Int → Int} (hs : 0 < s) (near : Near p F) (h : ∀ x, p ∣ less s F x) (x : Int) : p ∣ F x := by
  obtain ⟨B, hB⟩ := near
  rw [down_to (m := x + 1) (fun y _ => h y) hs (B + x.natAbs + 1) x (by omega)]
  have := mul_ge hs (B + x.natAbs + 1)
  exact hB _ (by omega)
theorem less_near {p s : Int} {F : Int → Int} (near : Near p F) : Near p (less s F) := by
  obtain ⟨B, hB⟩ := near
  exact ⟨B + s.natAbs, fun x hx => Int.dvd_sub (hB x (by omega)) (hB (x - s) (by omega))⟩
theorem less_ends {p s lo hi : Int} {F : Int → Int} (hs : 0 < s) (near : Near p F) (E : Ends1 p (less s F) lo hi) : Ends1 p F lo (hi - s) := by
  obtain ⟨B, hB⟩ := near
  have below : ∀ x, x < lo → p ∣ F x := fun x hx => by
    rw [down_to E.below hs (B + x.natAbs + 1) x hx]
    have := mul_ge hs (B + x.natAbs + 1)
    exact hB _ (by omega)
  have above : ∀ x, hi - s < x → p ∣ F x := fun x hx => by
    rw [up_to E.above hs (B + x.natAbs + 1) x (by omega)]
    have := mul_ge hs (B + x.natAbs + 1)
    exact hB _ (by omega)
  refine ⟨fun q => E.atLo ?_, fun q => E.atHi ?_, below, above⟩
  · exact Int.dvd_sub q (below (lo - s) (by omega))
  · exact Int.dvd_sub (above hi (by omega)) q
/-- all strides, one after another -/
def lessAll : List Int → (Int → Int) → Int → Int
  | [], F => F
  | s :: r, F => lessAll r (less s F)
theorem all_ends {p : Int} : ∀ {S : List Int} {F : Int → Int} {lo hi : Int}, (∀ s ∈ S, 0 < s) → Near p F → Ends1 p (lessAll S F) lo hi → Ends1 p F lo (hi - S.sum)
  | [], F, lo, hi, _, _, E => by
    rw [List.sum_nil, Int.sub_zero]
    exact E
  | s :: r, F, lo, hi, hs, near, E => by
    have E1 := all_ends (S := r) (fun t ht => hs t (List.mem_cons_of_mem s ht)) (less_near (s := s) near) E
    have E2 := less_ends (hs s List.mem_cons_self) near E1
    rw [List.sum_cons, show hi - (s + r.sum) = hi - r.sum - s by omega]
    exact E2
theorem all_none {p : Int} : ∀ {S : List Int} {F : Int → Int}, (∀ s ∈ S, 0 < s) → Near p F → (∀ x, p ∣ lessAll S F x) → ∀ x, p ∣ F x
  | [], F, _, _, h => h
  | s :: r, F, hs, near, h => none_left (hs s List.mem_cons_self) near (all_none (S := r) (fun t ht => hs t (List.mem_cons_of_mem s ht)) (less_near (s := s) near) h)
theorem less_cong {p s : Int} {F G : Int → Int} (h : ∀ x, p ∣ F x - G x) (x : Int) : p ∣ less s F x - less s G x := by
  have := Int.dvd_sub (h x) (h (x - s))
  rwa [show F x - G x - (F (x - s) - G (x - s)) = less s F x - less s G x by unfold less; omega] at this
theorem all_cong {p : Int} : ∀ {S : List Int} {F G : Int → Int}, (∀ x, p ∣ F x - G x) → ∀ x, p ∣ lessAll S F x - lessAll S G x
  | [], _, _, h => h
  | s :: r, _, _, h => all_cong (S := r) (less_cong (s := s) h)
theorem ends_cong {p lo hi : Int} {F G : Int → Int} (h : ∀ x, p ∣ F x - G x) (E : Ends1 p F lo hi) : Ends1 p G lo hi :=
  ⟨fun q => E.atLo ((dvd_sub_iff (h lo)).mpr q), fun q => E.atHi ((dvd_sub_iff (h hi)).mpr q), fun x hx => (dvd_sub_iff (h x)).mp (E.below x hx), fun x hx => (dvd_sub_iff (h x)).mp (E.above x hx)⟩
/-! ### groups: rounds, and what is multiplied by them -/
def mv (m : Pol) (f : Int → Int) (x : Int) : Int := (m.map fun t => t.2 * f (x - t.1)).sum
theorem mv_nil (f : Int → Int) (x : Int) : mv [] f x = 0 := rfl
theorem mv_cons (t : Int × Int) (r : Pol) (f : Int → Int) (x : Int) : mv (t :: r) f x = t.2 * f (x - t.1) + mv r f x := by
  unfold mv
  rw [List.map_cons, List.sum_cons]
theorem mv_put {f : Int → Int} {e v : Int} (x : Int) : ∀ {m : Pol}, (m.map (·.1)).Nodup → mv (put m e v) f x = mv m f x + (v - cf m e) * f (x - e)
  | [], _ => by
    rw [put_new (List.not_mem_nil), List.nil_append, mv_cons, mv_nil, cf_nil, Int.sub_zero]
    show v * f (x - e) + 0 = 0 + v * f (x - e)
    rw [Int.add_zero, Int.zero_add]
  | t :: r, n => by
    have nn := List.nodup_cons.mp (show (t.1 :: r.map (·.1)).Nodup from n)
    by_cases q : t.1 = e
    · have : put (t :: r) e v = (t.1, v) :: r := by
        rw [put, if_pos q, q]
      rw [this, mv_cons, mv_cons, cf_cons, if_pos q, cf_out (f := r) (e := e) (by rw [← q]; exact nn.1), q]
      show v * _ + _ = _
      rw [Int.add_zero, Int.sub_mul]
      omega
    · have : put (t :: r) e v = t :: put r e v := by
        rw [put, if_neg q]
      rw [this, mv_cons, mv_cons, mv_put x nn.2, cf_cons, if_neg q, Int.zero_add]
      omega
abbrev Grp := List (Pol × Pol)
def gv (G : Grp) (x : Int) : Int := (G.map fun g => mv g.2 (wy g.1) x).sum
theorem gv_nil (x : Int) : gv [] x = 0 := rfl
theorem gv_cons (g : Pol × Pol) (G : Grp) (x : Int) : gv (g :: G) x = mv g.2 (wy g.1) x + gv G x := by
  unfold gv
  rw [List.map_cons, List.sum_cons]
theorem gv_app (A B : Grp) (x : Int) : gv (A ++ B) x = gv A x + gv B x := by
  unfold gv
  rw [List.map_append, List.sum_append]
/-- what stands under a key -/
def gAt (G : Grp) (r : Pol) : Option Pol := (G.find? fun g => decide (g.1 = r)).map (·.2)
/-- m under r instead of what is there, or behind all -/
def gSet (G : Grp) (r m : Pol) : Grp := if (gAt G r).isSome = true then G.map (fun g => if g.1 = r then (g.1, m) else g) else G ++ [(r, m)]
theorem gAt_cons (g : Pol × Pol) (G : Grp) (r : Pol) : gAt (g :: G) r = if g.1 = r then some g.2 else gAt G r := by
  unfold gAt
  rw [List.find?_cons]
  by_cases e : g.1 = r
  · rw [decide_eq_true e, if_pos e]
    rfl
  · rw [decide_eq_false e, if_neg e]
theorem gAt_none {G : Grp} {r : Pol} (h : gAt G r = none) : r ∉ G.map (·.1) := by
  induction G with
  | nil => exact List.not_mem_nil
  | cons g G ih =>
    rw [gAt_cons] at h
    by_cases e : g.1 = r
    · rw [if_pos e] at h
      cases h
    · rw [if_neg e] at h
      intro z
      rcases List.mem_cons.mp (show r ∈ g.1 :: G.map (·.1) from z) with y | y
      · exact e y.symm
      · exact ih h y
theorem gSet_keys {G : Grp} {r m : Pol} (h : (gAt G r).isSome = true) : (gSet G r m).map (·.1) = G.map (·.1) := by
  unfold gSet
  rw [if_pos h, List.map_map]
  refine List.map_congr_left fun g _ => ?_
  show (if g.1 = r then (g.1, m) else g).1 = g.1
  split <;> rfl
theorem gSet_nodup {G : Grp} {r m : Pol} (n : (G.map (·.1)).Nodup) : ((gSet G r m).map (·.1)).Nodup := by
  cases h : gAt G r with
  | none =>
    have out := gAt_none h
    unfold gSet
    rw [h]
    show ((G ++ [(r, m)]).map (·.1)).Nodup
    rw [List.map_append]
    exact List.nodup_append.mpr ⟨n, List.nodup_cons.mpr ⟨List.not_mem_nil, List.nodup_nil⟩, fun a ha b hb e => by
      cases List.mem_singleton.mp hb
      exact out ((show a = r from e) ▸ ha)⟩
  | some m0 =>
    rw [gSet_keys (by rw [h]; rfl)]
    exact n
/-- what is added by a change -/
theorem gv_set {G : Grp} {r m : Pol} (x : Int) (n : (G.map (·.1)).Nodup) : gv (gSet G r m) x = gv G x + (mv m (wy r) x - mv ((gAt G r).getD []) (wy r) x) := by
  cases h : gAt G r with
  | none =>
    unfold gSet
    rw [h]
    show gv (G ++ [(r, m)]) x = _
    rw [gv_app, gv_cons, gv_nil]
    show _ = gv G x + (mv m (wy r) x - mv [] (wy r) x)
    rw [mv_nil]
    show gv G x + (mv m (wy r) x + 0) = _
    omega
  | some m0 =>
    unfold gSet
    rw [h]
    show gv (G.map fun g => if g.1 = r then (g.1, m) else g) x = gv G x + (mv m (wy r) x - mv m0 (wy r) x)
    induction G with
    | nil => cases h
    | cons g G ih =>
      have nn := List.nodup_cons.mp (show (g.1 :: G.map (·.1)).Nodup from n)
      rw [gAt_cons] at h
      rw [List.map_cons, gv_cons, gv_cons]
      by_cases e : g.1 = r
      · rw [if_pos e] at h ⊢
        have rest : (G.map fun g => if g.1 = r then (g.1, m) else g) = G := by
          have : ∀ u ∈ G, (if u.1 = r then (u.1, m) else u) = id u := fun u hu => if_neg fun z => nn.1 (by rw [e, ← z]; exact List.mem_map_of_mem hu)
          rw [List.map_congr_left this, List.map_id]
        rw [rest, ← Option.some.inj h, e]
        show mv m (wy r) x + gv G x = mv g.2 (wy r) x + gv G x + (mv m (wy r) x - mv g.2 (wy r) x)
        omega
      · rw [if_neg e] at h ⊢
        rw [ih nn.2 h]
        omega
/-! without what the prime divides -/
def zr (p : Int) (m : Pol) : Pol := (m.map fun t => (t.1, t.2 % p)).filter fun t => decide (t.2 ≠ 0)
theorem zr_cons (p : Int) (t : Int × Int) (r : Pol) : zr p (t :: r) = if t.2 % p ≠ 0 then (t.1, t.2 % p) :: zr p r else zr p r := by
  unfold zr
  rw [List.map_cons, List.filter_cons]
  by_cases e : t.2 % p ≠ 0
  · rw [if_pos e, if_pos (decide_eq_true e)]
  · rw [if_neg e, if_neg fun z => e (of_decide_eq_true z)]
theorem mv_zr {p : Int} (f : Int → Int) (x : Int) : ∀ m : Pol, p ∣ mv m f x - mv (zr p m) f x
  | [] => by
    rw [show mv [] f x - mv (zr p []) f x = 0 from rfl]
    exact Int.dvd_zero p
  | t :: r => by
    have ih := mv_zr (p := p) f x r
    have one : p ∣ t.2 * f (x - t.1) - t.2 % p * f (x - t.1) := by
      rw [← Int.sub_mul]
      exact Int.dvd_mul_of_dvd_left Int.dvd_self_sub_emod
    rw [zr_cons, mv_cons]
    split
    · rw [mv_cons]
      have := Int.dvd_add one ih
      rwa [show t.2 * f (x - t.1) - t.2 % p * f (x - t.1) + (mv r f x - mv (zr p r) f x) = t.2 * f (x - t.1) + mv r f x - (t.2 % p * f (x - t.1) + mv (zr p r) f x) by omega] at this
    · next e =>
      have e : t.2 % p = 0 := by omega
      rw [e, Int.zero_mul, Int.sub_zero] at one
      have := Int.dvd_add one ih
      rwa [show t.2 * f (x - t.1) + (mv r f x - mv (zr p r) f x) = t.2 * f (x - t.1) + mv r f x - mv (zr p r) f x by omega] at this
theorem zr_sub {p : Int} {m : Pol} : ∀ t ∈ zr p m, ∃ u ∈ m, t.1 = u.1 ∧ t.2 = u.2 % p ∧ t.2 ≠ 0 := fun t ht => by
  obtain ⟨h1, h2⟩ := List.mem_filter.mp ht
  obtain ⟨u, hu, rfl⟩ := List.mem_map.mp h1
  exact ⟨u, hu, rfl, rfl, of_decide_eq_true h2⟩
theorem zr_nodup {p : Int} : ∀ {m : Pol}, (m.map (·.1)).Nodup → ((zr p m).map (·.1)).Nodup := fun {m} n => by
  have sub : (zr p m).Sublist (m.map fun t => (t.1, t.2 % p)) := List.filter_sublist
  have := (sub.map (·.1))
  rw [List.map_map] at this
  exact this.nodup n
def wz (p : Int) (G : Grp) : Grp := (G.map fun g => (g.1, zr p g.2)).filter fun g => decide (g.2 ≠ [])
theorem wz_cons (p : Int) (g : Pol × Pol) (G : Grp) : wz p (g :: G) = if zr p g.2 ≠ [] then (g.1, zr p g.2) :: wz p G else wz p G := by
  unfold wz
  rw [List.map_cons, List.filter_cons]
  by_cases e : zr p g.2 ≠ []
  · rw [if_pos e, if_pos (decide_eq_true e)]
  · rw [if_neg e, if_neg fun z => e (of_decide_eq_true z)]
theorem gv_wz {p : Int} (x : Int) : ∀ G : Grp, p ∣ gv G x - gv (wz p G) x
  | [] => by
    rw [show gv [] x - gv (wz p []) x = 0 from rfl]
    exact Int.dvd_zero p
  | g :: G => by
    have ih := gv_wz (p := p) x G
    have one := mv_zr (p := p) (wy g.1) x g.2
    rw [wz_cons, gv_cons]
    split
    · rw [gv_cons]
      have := Int.dvd_add one ih
      rwa [show mv g.2 (wy g.1) x - mv (zr p g.2) (wy g.1) x + (gv G x - gv (wz p G) x) = mv g.2 (wy g.1) x + gv G x - (mv (zr p g.2) (wy g.1) x + gv (wz p G) x) by omega] at this
    · next e =>
      have e : zr p g.2 = [] := Classical.byContradiction e
      rw [e, mv_nil, Int.sub_zero] at one
      have := Int.dvd_add one ih
      rwa [show mv g.2 (wy g.1) x + (gv G x - gv (wz p G) x) = mv g.2 (wy g.1) x + gv G x - gv (wz p G) x by omega] at this
theorem wz_sub {p : Int} {G : Grp} : ∀ g ∈ wz p G, ∃ h ∈ G, g.1 = h.1 ∧ g.2 = zr p h.2 ∧ g.2 ≠ [] := fun g hg => by
  obtain ⟨h1, h2⟩ := List.mem_filter.mp hg
  obtain ⟨h, hh, rfl⟩ := List.mem_map.mp h1
  exact ⟨h, hh, rfl, rfl, of_decide_eq_true h2⟩
theorem wz_nodup {p : Int} {G : Grp} (n : (G.map (·.1)).Nodup) : ((wz p G).map (·.1)).Nodup := by
  have sub : (wz p G).Sublist (G.map fun g => (g.1, zr p g.2)) := List.filter_sublist
  have := (sub.map (·.1))
  rw [List.map_map] at this
  exact this.nodup n
/-! one stride less -/
def dropS (s : Int) : Pol → Pol
  | [] => []
  | r :: rs => if r.2 = s then rs else r :: dropS s rs
def jump (s : Int) : Pol → Int
  | [] => s
  | r :: rs => if r.2 = s then r.1 * s else jump s rs
theorem rsum_less (f : Int → Int) (s : Int) : ∀ (n : Nat) (x : Int), rsum f s n x - rsum f s n (x - s) = f x - f (x - n * s)
  | 0, x => by
    rw [show x - ((0 : Nat) : Int) * s = x by rw [Int.natCast_zero, Int.zero_mul, Int.sub_zero], Int.sub_self]
    rfl
  | n + 1, x => by
    have ih := rsum_less f s n x
    show rsum f s n x + f (x - n * s) - (rsum f s n (x - s) + f (x - s - n * s)) = _
    rw [show x - s - (n : Int) * s = x - ((n + 1 : Nat) : Int) * s by rw [Int.natCast_succ, Int.add_mul, Int.one_mul]; omega]
    omega
theorem rsum_sub (f g : Int → Int) (s : Int) : ∀ (n : Nat) (x : Int), rsum (fun y => f y - g y) s n x = rsum f s n x - rsum g s n x
  | 0, _ => rfl
  | n + 1, x => by
    have ih := rsum_sub f g s n x
    show rsum (fun y => f y - g y) s n x + (f _ - g _) = rsum f s n x + f _ - (rsum g s n x + g _)
    omega
theorem wy_less (s : Int) : ∀ (rs : Pol) (d : Int), (∀ r ∈ rs, 0 ≤ r.1) → wy rs d - wy rs (d - s) = wy (dropS s rs) d - wy (dropS s rs) (d - jump s rs)
  | [], d, _ => rfl
  | r :: rs, d, h => by
    unfold dropS jump
    split
    · next e =>
      rw [wy_cons, wy_cons, e, rsum_less, Int.toNat_of_nonneg (h r List.mem_cons_self)]
    · have ih := fun y => wy_less s rs y fun t ht => h t (List.mem_cons_of_mem r ht)
      rw [wy_cons, wy_cons, wy_cons, wy_cons, ← rsum_move (fun y => wy rs y) r.2 s, ← rsum_sub, ← rsum_move (fun y => wy (dropS s rs) y) r.2 (jump s rs), ← rsum_sub]
      exact rsum_congr ih _ _
/-- how often a stride stands there -/
def sct (s : Int) (rs : Pol) : Nat := (rs.map (·.2)).count s
theorem sct_drop (s u : Int) : ∀ rs : Pol, sct u (dropS s rs) = if u = s then sct u rs - 1 else sct u rs
  | [] => by
    show 0 = if u = s then 0 - 1 else 0
    split <;> rfl
  | r :: rs => by
    have ih := sct_drop s u rs
    unfold dropS
    unfold sct at ih ⊢
    by_cases e : r.2 = s
    · rw [if_pos e, List.map_cons, List.count_cons, e]
      by_cases z : u = s
      · rw [if_pos z, z, if_pos (by rw [beq_self_eq_true])]
        omega
      · rw [if_neg z, if_neg (fun y => z (eq_of_beq y).symm)]
        omega
    · rw [if_neg e, List.map_cons, List.count_cons, ih, List.map_cons, List.count_cons]
      by_cases z : u = s
      · rw [if_pos z, if_pos z, z, if_neg (fun y => e (eq_of_beq y))]
        omega
      · rw [if_neg z, if_neg z]
theorem sct_none {rs : Pol} (h : ∀ s, sct s rs = 0) : rs = [] := by
  cases rs with
  | nil => rfl
  | cons r rs =>
    have := h r.2
    unfold sct at this
    rw [List.map_cons, List.count_cons, if_pos (by rw [beq_self_eq_true])] at this
    omega
theorem dropS_len (s : Int) (rs : Pol) : (dropS s rs).length ≤ rs.length := by
  induction rs with
  | nil => exact Nat.le_refl _
  | cons r rs ih =>
    unfold dropS
    split
    · exact Nat.le_succ _
    · exact Nat.succ_le_succ ih
theorem dropS_sub (s : Int) : ∀ (rs : Pol), ∀ r ∈ dropS s rs, r ∈ rs
  | [], _, h => h
  | t :: rs, r, h => by
    unfold dropS at h
    split at h
    · exact List.mem_cons_of_mem t h
    · rcases List.mem_cons.mp h with e | h
      · exact e ▸ List.mem_cons_self
      · exact List.mem_cons_of_mem t (dropS_sub s rs r h)
end DR
namespace PySem.SeqAt
open AutoSeq1 (wpAny_loadPart')
open MeetsSeq MeetsSeq2 MeetsSeq3
section
variable {prog : Program} {w : World}
/-- two pairs whose parts are equal: != says False -/
theorem pair_neIn (l b : Addr) (x y x' y' : Value) (n n2 : Nat) (dd dd2 : Option Addr) (sl sl2 : Array (Option Value)) :
    MeetsIn prog w (Builtin.«tuple.__ne__» ⟨[.ref l, .ref b], []⟩)
      (fun A R s => s.heap.get? l = some ⟨.type "tuple", dd, .seq #[x, y] n, sl⟩ ∧ s.heap.get? b = some ⟨.type "tuple", dd2, .seq #[x', y'] n2, sl2⟩ ∧
        EqP prog w A.in1 s x x' true ∧ EqP prog w A.in1 s y y' true ∧ R (.ok (.ret (.bool false))) s) := by
  intro A R s h
  rcases s with ⟨hp, g, d, tk, os⟩
  rcases h with ⟨hl, hb, e1, e2, h⟩
  have sub := AutoSeq1.sub_tuple_tuple
  wp_walk using wpAny_loadPart' hl, wpAny_loadPart' hb, wpAny_forIn_list _ (fun rest b s' => b.1 = none ∧ s' = ⟨hp, g, d, tk, os⟩ ∧ (rest = [(x, x'), (y, y')] ∨ rest = [(y, y')] ∨ rest = [])) _
  case turn =>
    rintro ⟨a, c⟩ rest b s' ⟨hb', rfl, hz⟩
    rcases hz with hz | hz | hz
    · injection hz with i1 i2
      injection i1 with j1 j2
      subst j1 j2
      refine wpAny_bind (e1 _ _ ?_)
      wp_walk
      exact ⟨rfl, rfl, .inr (.inl i2)⟩
    · injection hz with i1 i2
      injection i1 with j1 j2
      subst j1 j2
      refine wpAny_bind (e2 _ _ ?_)
      wp_walk
      exact ⟨rfl, rfl, .inr (.inr i2)⟩
    · cases hz
  case fin =>
    rintro ⟨ret, rest⟩ now ⟨none, rfl, _⟩
    obtain rfl : ret = Option.none := none
    wp_walk
    exact h
  · exact ⟨rfl, rfl, .inl rfl⟩
theorem pairs_ne {A : Around} {s : Shared} {l b : Addr} {x y x' y' : Value} (hl : s.heap.IsTuple l #[x, y]) (hb : s.heap.IsTuple b #[x', y']) (hu : A.units < cLine) (h1 : EqP prog w A.in1 s x x' true) (h2 : EqP prog w A.in1 s y y' true)
    (E Q : Value → Shared → Prop) (h : Q (.bool false) s) : wpAny (model prog w) A (richCompare .NotEq (.ref l) (.ref b)) Q E s := by
  rcases hl with ⟨o1, g1, c1, k1, d1⟩
  rcases hb with ⟨o2, g2, c2, k2, d2⟩
  have tl : s.TypeIs (.ref l) "tuple" := ⟨o1, g1, c1⟩
  have tr : s.TypeIs (.ref b) "tuple" := ⟨o2, g2, c2⟩
  have e1 : o1 = ⟨.type "tuple", o1.dict, .seq #[x, y] k1, o1.slots⟩ := by rw [← c1, ← d1]
  have e2 : o2 = ⟨.type "tuple", o2.dict, .seq #[x', y'] k2, o2.slots⟩ := by rw [← c2, ← d2]
  have no : Value.bool false ≠ Value.notImplemented := fun z => nomatch z
  have run := call_meetsIn (A := A) (E := E) F.slot_tuple_ne tl F.entry_tuple_ne (F.args_tuple_ne_2 (.ref l) (.ref b)) (pair_neIn (prog := prog) (w := w) l b x y x' y' k1 k2 o1.dict o2.dict o1.slots o2.slots) (Q := fun v s' => v ≠ .notImplemented ∧ Q v s')
    ⟨by rw [← e1]; exact g1, by rw [← e2]; exact g2, h1, h2, no, h⟩
  exact wpAny_richCompare_same_room (op := .NotEq) tl tr F.slot_tuple_ne run hu
end
end PySem.SeqAt
namespace L2
open PySem PySem.Spec PyProof.Rows PySem.W
section
variable {X : Cx} {pos : Pos} {es : List Expr} {t : TA}
/-- a plain tuple is laid and known by its object -/
theorem plain_laid {pins : List (Addr × Obj)} {σ : St} {H : Hp} {s : Shared} {vals : List Value} {ys : List V} (J : Inv X pins σ H s) (rv : Vals ys vals) (hz : ys.length ≤ sizeLine) :
    Inv X pins σ (upd H s.heap.objs.size (.frz ⟨.type "tuple", none, .seq vals.toArray 0, #[]⟩ (.tup ys))) { s with heap := s.heap.push ⟨.type "tuple", none, .seq vals.toArray 0, #[]⟩ } :=
  J.laid (t' := s.toks) (fun b o => Heap.get?_push_of_some _) (Nat.le_refl _) ⟨Heap.get?_push_size _ rfl, hz, vals, rv, IsTup.new _ _⟩
/-- tuple(a list): the new tuple is plain -/
theorem call_tuple_ofP : CallR X (.type "tuple") (fun xs H Q => ∃ p ys, xs = [.ref p] ∧ SqL X.K H p ys ∧ ∀ l o, H l = none → o.dict = none → Q (.ref l) (upd H l (.frz o (.tup ys)))) := by
  rintro pins s σ H _ us Q I r ⟨p, ys, rfl, hp, go⟩
  obtain ⟨v, e, rp⟩ := vals1 r
  have ev : v = .ref p := rp
  subst e ev
  obtain ⟨vals, rv, pl, hz⟩ := I.list hp
  have room : vals.toArray.size ≤ sizeLine := by
    rw [List.size_toArray, ← rv.length]
    exact hz
  apply call_tuple_list pl.isList _ room
  intro h1 same
  have J := I.kept (t' := s.toks) same
  exact ⟨.ref _, _, plain_laid J rv hz, rfl, go _ _ (J.hok.fresh (Nat.le_refl _)) rfl⟩
def tTupP (t : TA) : TE := fun σ H Q => t σ H fun xs H1 => xs.length ≤ sizeLine ∧ ∀ p o, H1 p = none → o.dict = none → Q (.ref p) (upd H1 p (.frz o (.tup xs)))
/-- a display of a tuple: it is plain -/
theorem pe_tupP {x1} (h : PA X es t) : PE X (.Tuple es x1 pos) (tTupP t) := by
  constructor
  intro pins s σ H Q I want
  have parts := h.run pos pins s σ H _ I want
  apply wpAny_Tuple_spliced
  refine thn parts ?_
  rintro vals s1 ⟨xs, H1, J, rv, hz, go⟩
  have room : vals.length ≤ sizeLine := rv.length ▸ hz
  exact ⟨room, .ref _, _, plain_laid J rv hz, rfl, go _ _ (J.hok.fresh (Nat.le_refl _)) rfl⟩
/-- dict(t) of a plain tuple of pairs -/
theorem call_dictT (hcalm : X.calm = true) : CallR X (.type "dict") (fun xs H Q => ∃ (a : Addr) (o : Obj) (ps : List Addr) (kvs : List (Key × V)), xs = [.ref a] ∧ H a = some (.frz o (.tup (ps.map V.ref))) ∧ o.dict = none ∧ Paired (fun p kv => SqT X.K H p [kV kv.1, kv.2]) ps kvs ∧
    ∀ new, H new = none → Q (.ref new) (upd H new (.dK (mergeK [] kvs)))) := by
  rintro pins s σ H _ us Q I r ⟨a, o, ps, kvs, rfl, hq, hd, hp, q⟩
  obtain ⟨v, e, ra⟩ := vals1 r
  have ev : v = .ref a := ra
  subst e ev
  obtain ⟨ho, hz, its, rv, o', ho', hc, n, hdat⟩ := I.hok _ _ hq
  cases ho.symm.trans ho'
  have ei := refs_at rv
  subst ei
  rw [List.length_map] at hz
  have ⟨prs, rel, hl, hpr⟩ := pairs_of I hp
  let vals : List (Value × Value) := prs.mapIdx fun j q => (((ps[j]?).bind fun b => (s.heap.get? b).bind fun ob => match ob.data with | .seq its _ => its[0]? | _ => none).getD .none, q.2)
  have hv : ∀ (j : Nat) (q : Key × Value), prs[j]? = some q → ∃ (b : Addr) (u : Value), ps[j]? = some b ∧ IsTup s.heap b #[u, q.2] ∧ keyIs q.1 u = true ∧ vals[j]? = some (u, q.2) := fun j q e => by
    obtain ⟨b, u, e1, e2, e3⟩ := hpr j q e
    refine ⟨b, u, e1, e2, e3, ?_⟩
    obtain ⟨ob, g1, _, m, g2⟩ := e2
    have : vals[j]? = some (((ps[j]?).bind fun b => (s.heap.get? b).bind fun ob => match ob.data with | .seq its _ => its[0]? | _ => none).getD .none, q.2) := by
      show (prs.mapIdx _)[j]? = _
      rw [List.getElem?_mapIdx, e]
      rfl
    rw [this, e1]
    simp only [Option.bind_some, g1, g2]
    rfl
  have hlv : vals.length = prs.length := List.length_mapIdx
  have hlt : ∀ (j : Nat) (k v : Value), vals[j]? = some (k, v) → ∃ q, prs[j]? = some q ∧ ∃ (b : Addr), ps[j]? = some b ∧ IsTup s.heap b #[k, v] ∧ q.2 = v ∧ keyIs q.1 k = true := fun j k v e => by
    have hj : j < prs.length := by
      rw [← hlv]
      exact (List.getElem?_eq_some_iff.mp e).1
    obtain ⟨b, u, e1, e2, e3, e4⟩ := hv j _ (List.getElem?_eq_getElem hj)
    rw [e] at e4
    cases e4
    exact ⟨_, List.getElem?_eq_getElem hj, b, e1, e2, rfl, e3⟩
  refine PySem.call_dict_pairs (knd := mixKind X.prog X.w) (kvs := prs) (PySem.PairArg.tuple a (ps.map Value.ref).toArray (fun j => (ps[j]?).getD 0) vals) (I.ok.hd hcalm) ⟨⟨o, n, ho, hc, hd, hdat⟩, ?_, fun j k v e => ?_⟩ ⟨hlv.symm, fun i key v e => ?_⟩ (by rw [hlv, hl]; exact hz) fun h' tk hd' k => ?_
  · rw [List.size_toArray, List.length_map, hlv, hl]
  · obtain ⟨q, _, b, e1, e2, _⟩ := hlt j k v e
    refine ⟨?_, ?_⟩
    · simp [e1]
    · show PairAt s.heap (ps[j]?.getD 0) k v
      rw [e1]
      exact .inl e2
  · obtain ⟨q, e0, b, e1, e2, e3, e4⟩ := hlt i key v e
    refine ⟨q.1, ?_, e4⟩
    rw [← e3]
    exact e0
  · have fits : (mergeK [] kvs).length ≤ sizeLine := by
      have all := length_mergeK kvs []
      have same : kvs.length = prs.length := rel.length
      rw [show ([] : List (Key × V)).length = 0 from rfl] at all
      omega
    have apart : (s.heap.objs.size == sysModules) = false := by
      rw [beq_eq_false_iff_ne]
      exact (Nat.ne_of_lt I.big).symm
    have J := I.laid (t' := tk) (o := .dK (mergeK [] kvs)) (fun b o e => k b o (fun z => nomatch z) e) (Nat.le_refl s.heap.objs.size) ⟨fits, apart, merged [] prs, KV.merge rel .nil, hd'⟩
    exact ⟨.ref _, _, J, rfl, q _ (I.hok.fresh (Nat.le_refl _))⟩
/-- (a dict, an int) != (an equal dict, the same int) -/
def rNeDI (K : PySem.W.Frag) : R2 := fun x y H Q => ∃ (a b d e : Addr) (ks : List (Key × V)) (n : Int), x = .ref a ∧ y = .ref b ∧ SqT K H a [.ref d, .int n] ∧ SqT K H b [.ref e, .int n] ∧ H d = some (.dK ks) ∧ H e = some (.dK ks) ∧
  (∀ p ∈ ks, valV ks p.1 = some p.2 ∧ flatB p.2 = true) ∧ Q (.bl false) H
theorem op_neDI (hu : X.A.units + 64 < cLine) : OpR X (compareOp .NotEq) (rNeDI X.K) := by
  rintro pins s σ H _ _ v u Q I ra rb ⟨a, b, d, e, ks, n, rfl, rfl, ha, hb, hd, he, hk, q⟩
  have ea : v = .ref a := ra
  have eb : u = .ref b := rb
  subst ea eb
  obtain ⟨i1, r1, t1, _⟩ := I.tuple ha
  obtain ⟨i2, r2, t2, _⟩ := I.tuple hb
  obtain ⟨x1, y1, e1, rx1, ⟨k1, ry1⟩⟩ := vals2 r1
  obtain ⟨x2, y2, e2, rx2, ⟨k2, ry2⟩⟩ := vals2 r2
  subst e1 e2 ry1 ry2
  refine PySem.SeqAt.pairs_ne t1 t2 (by omega) ?_ ?_ _ _ ⟨.bl false, H, I, rfl, q⟩
  · refine eqV_run I 3 X.A.in1 (by show X.A.units + 1 + 3 < cLine; omega) (.ref d) (.ref e) _ _ (.inr (.inr (.inr ⟨d, e, ks, ks, rfl, rfl, hd, he, rfl, fun p hp => ⟨p.2, (hk p hp).1, .inl ⟨rfl, (hk p hp).2⟩⟩⟩))) rx1 rx2
  · exact (eqAt_same (show RelV (V.int n) _ from ⟨k1, rfl⟩) (show RelV (V.int n) _ from ⟨k2, rfl⟩) rfl).eqP
/-- a dict of ints as data -/
def dkD (m : DR.Pol) : PyData := .dict (m.map fun t => (.int t.1, .int t.2))
theorem dk_reads {pins : List (Addr × Obj)} {σ : St} {H : Hp} {s : Shared} (I : Inv X pins σ H s) {a : Addr} {m : DR.Pol} (ha : H a = some (.dK (DR.kvOf m))) : ∃ as, Reads s.heap (.ref a) (dkD m) as ∧ sysModules ∉ as := by
  obtain ⟨z, lo, vs, rel, o, es, ep, e1, ex, e2, _, e4, _⟩ := dk_rd I.hok (Rd.of ha)
  have key : ∀ (m : DR.Pol) (vs : List (Key × Value)) (l : List DictEntry), KV (DR.kvOf m) vs → Pairs (mixKind X.prog X.w) l vs → ReadsAll s.heap (l.map (·.key)) (m.map fun t => PyData.int t.1) [] ∧ ReadsAll s.heap (l.map (·.val)) (m.map fun t => PyData.int t.2) [] := by
    intro m
    induction m with
    | nil =>
      intro vs l r p
      cases r
      cases p
      exact ⟨.nil, .nil⟩
    | cons t m ih =>
      intro vs l r p
      cases r with
      | @cons _ q _ qs h r' =>
        cases p with
        | @cons en _ es' _ k1 k2 p' =>
          obtain ⟨i1, i2⟩ := ih _ _ r' p'
          obtain ⟨h1, t2, h2⟩ := h
          obtain ⟨t1, e1⟩ : ∃ tk, en.key = Value.int t.1 tk := by
            have h0 : Sum.inl t.1 = q.1 := h1
            rcases keyIs_shape (show keyIs q.1 en.key = true from k1) with ⟨i, tk, g1, g2⟩ | ⟨y, tk, g1, g2⟩
            · rw [g1] at h0
              cases h0
              exact ⟨tk, g2⟩
            · rw [g1] at h0
              cases h0
          have e2 : en.val = Value.int t.2 t2 := k2.trans h2
          refine ⟨?_, ?_⟩
          · show ReadsAll s.heap (en.key :: es'.map (·.key)) _ ([] ++ [])
            rw [e1]
            exact .cons (.int _ _) i1
          · show ReadsAll s.heap (en.val :: es'.map (·.val)) _ ([] ++ [])
            rw [e2]
            exact .cons (.int _ _) i2
  obtain ⟨r1, r2⟩ := key m vs es.toList rel e4
  refine ⟨(a :: []) ++ [], show Reads s.heap (.ref a) (.dict (m.map fun t => (PyData.int t.1, PyData.int t.2))) (a :: [] ++ []) from .dict (as := []) (bs := []) e1 ex.1 e2 ?_ ?_, fun hm => ?_⟩
  · rw [List.map_map]
    exact r1
  · rw [List.map_map]
    exact r2
  · have e6 : sysModules = a := by simpa using hm
    rw [e6] at lo
    simp at lo
/-- what of dicts is shown -/
def DkX (K : PySem.W.Frag) (H : Hp) (x : V) (d : PyData) : Prop := (∃ a m, x = .ref a ∧ H a = some (.dK (DR.kvOf m)) ∧ d = dkD m) ∨ ∃ a b m n, x = .ref a ∧ SqT K H a [.ref b, .int n] ∧ H b = some (.dK (DR.kvOf m)) ∧ d = .tuple [dkD m, .int n]
theorem call_reprK (hg : X.A.guards = some []) (hu : X.A.units + 100 < cLine) : CallR X (.builtin "repr") (fun xs H Q => ∃ (x : V) (d : PyData), xs = [x] ∧ DkX X.K H x d ∧ d.showable = true ∧ d.depth ≤ 64 ∧ d.shown.length ≤ sizeLine ∧ Q (.str d.shown) H) := by
  rintro pins s σ H _ us Q I r ⟨x, d, rfl, hd, hs, hz, hl, q⟩
  have ⟨u, eu, rx⟩ := vals1 r
  subst eu
  rcases hd with ⟨a, m, rfl, ha, rfl⟩ | ⟨a, b, m, n, rfl, ha, hb, rfl⟩
  · obtain rfl : u = Value.ref a := rx
    obtain ⟨as, rd, hm⟩ := dk_reads I ha
    refine repr_of_reads' rd hs (fun _ => hm) hg (by omega) (fun _ _ e => e) (fun h' t tk hk => ?_) hl
    exact ⟨.str _, H, I.kept hk, ⟨t, rfl⟩, q⟩
  · obtain rfl : u = Value.ref a := rx
    obtain ⟨as, rd, hm⟩ := dk_reads I hb
    obtain ⟨i1, r1, ⟨o, g1, g2, k, g3⟩, _⟩ := I.tuple ha
    obtain ⟨x1, y1, e1, rx1, ⟨k1, ry1⟩⟩ := vals2 r1
    cases (show x1 = Value.ref b from rx1)
    subst e1 ry1
    refine repr_of_reads' (.tuple g1 g2 g3 (.cons rd (.cons (.int _ _) .nil))) hs (fun _ => by simpa using hm) hg (by omega) (fun _ _ e => e) (fun h' t tk hk => ?_) hl
    exact ⟨.str _, H, I.kept hk, ⟨t, rfl⟩, q⟩
end
end L2

namespace DR
open PySem PySem.Spec PyProof.Rows L2
/-! ### plain tuples -/
def PlT (H : Hp) (a : Addr) (xs : List V) : Prop := ∃ o, o.dict = none ∧ H a = some (.frz o (.tup xs))
theorem PlT.sq {K : PySem.W.Frag} {H : Hp} {a : Addr} {xs : List V} (h : PlT H a xs) : SqT K H a xs := h.elim fun o z => .inl (.inr ⟨o, z.2⟩)
theorem PlT.tp {H H' : Hp} {a : Addr} {xs : List V} (e : Tp H H') (h : PlT H a xs) : PlT H' a xs := h.elim fun o z => ⟨o, z.1, e.frz _ _ _ z.2⟩
def TPolP (K : PySem.W.Frag) (H : Hp) (v : V) (f : Pol) : Prop := ∃ a xs, v = .ref a ∧ PlT H a xs ∧ Prs K H xs f
def TEffP (K : PySem.W.Frag) (H : Hp) (v : V) (f : Pol) (n : Int) : Prop := ∃ a x, v = .ref a ∧ SqT K H a [x, .int n] ∧ TPolP K H x f
section
variable {K : PySem.W.Frag} {H H' : Hp} {v : V} {f : Pol} {n : Int}
theorem TPolP.pol (h : TPolP K H v f) : TPol K H v f := by
  obtain ⟨a, xs, e, p, q⟩ := h
  exact ⟨a, xs, e, p.sq, q⟩
theorem TPolP.tp (e : Tp H H') (h : TPolP K H v f) : TPolP K H' v f := by
  obtain ⟨a, xs, rfl, hs, hp⟩ := h
  exact ⟨a, xs, rfl, hs.tp e, Prs.tp e hp⟩
theorem TPolP.same (e : Same H H') (h : TPolP K H v f) : TPolP K H' v f := h.tp (Same.tp e)
theorem TEffP.eff (h : TEffP K H v f n) : TEff K H v f n := by
  obtain ⟨a, x, e, p, q⟩ := h
  exact ⟨a, x, e, p, q.pol⟩
theorem TEffP.tp (e : Tp H H') (h : TEffP K H v f n) : TEffP K H' v f n := by
  obtain ⟨a, x, rfl, hs, hp⟩ := h
  exact ⟨a, x, rfl, tp_t e hs, hp.tp e⟩
theorem TEffP.same (e : Same H H') (h : TEffP K H v f n) : TEffP K H' v f n := h.tp (Same.tp e)
/-- dict(a plain polynomial) -/
theorem prs_paired : ∀ {xs : List V} {f : Pol}, Prs K H xs f → ∃ ps : List Addr, xs = ps.map V.ref ∧ Paired (fun (p : Addr) (kv : Key × V) => SqT K H p [kV kv.1, kv.2]) ps (kvOf f)
  | _, _, .nil => ⟨[], rfl, .nil⟩
  | _, _, .cons r q => by
    obtain ⟨ps, e, h⟩ := prs_paired q
    obtain ⟨a, rfl, hs⟩ := r
    exact ⟨a :: ps, by rw [e]; rfl, .cons hs h⟩
theorem merge_nd : ∀ (m acc : Pol), ((acc ++ m).map (·.1)).Nodup → mergeK (kvOf acc) (kvOf m) = kvOf (acc ++ m)
  | [], acc, _ => by
    rw [List.append_nil]
    rfl
  | t :: m, acc, h => by
    have n1 : (acc.map (·.1)).Nodup := by
      rw [List.map_append] at h
      exact (List.nodup_append.mp h).1
    have n2 : t.1 ∉ acc.map (·.1) := by
      rw [List.map_append] at h
      intro z
      exact (List.nodup_append.mp h).2.2 _ z t.1 List.mem_cons_self rfl
    have e : mergeK (kvOf acc) (kvOf (t :: m)) = mergeK (putK (kvOf acc) (Sum.inl t.1 : Key) (.int t.2)) (kvOf m) := rfl
    rw [e, kv_put n1, put_new n2, merge_nd m (acc ++ [(t.1, t.2)]) (by rw [List.append_assoc]; exact h), List.append_assoc]
    rfl
theorem TPolP.parts (h : TPolP K H v f) : ∃ (a : Addr) (o : Obj) (ps : List Addr), v = V.ref a ∧ H a = some (.frz o (.tup (ps.map V.ref))) ∧ o.dict = none ∧ Paired (fun (p : Addr) (kv : Key × V) => SqT K H p [kV kv.1, kv.2]) ps (kvOf f) := by
  obtain ⟨a, xs, rfl, ⟨o, h1, h2⟩, hp⟩ := h
  obtain ⟨ps, rfl, pp⟩ := prs_paired hp
  exact ⟨a, o, ps, rfl, h2, h1, pp⟩
theorem LPol.parts (h : LPol K H v f) : ∃ (a : Addr) (ps : List Addr), v = V.ref a ∧ SqL K H a (ps.map V.ref) ∧ Paired (fun (p : Addr) (kv : Key × V) => SqT K H p [kV kv.1, kv.2]) ps (kvOf f) := by
  obtain ⟨a, xs, rfl, h2, hp⟩ := h
  obtain ⟨ps, rfl, pp⟩ := prs_paired hp
  exact ⟨a, ps, rfl, h2, pp⟩
theorem merge_kv (nd : (f.map (·.1)).Nodup) : mergeK [] (kvOf f) = kvOf f := merge_nd f [] nd
end
theorem cf_at : ∀ {f : Pol}, (f.map (·.1)).Nodup → ∀ {t : Int × Int}, t ∈ f → cf f t.1 = t.2
  | u :: r, n, t, h => by
    have nn := List.nodup_cons.mp (show (u.1 :: r.map (·.1)).Nodup from n)
    rw [cf_cons]
    rcases List.mem_cons.mp h with e | e
    · rw [e, if_pos rfl, cf_out nn.1, Int.add_zero]
    · rw [if_neg (fun z => nn.1 (by rw [z]; exact List.mem_map_of_mem e)), cf_at nn.2 e, Int.zero_add]
theorem kv_flat {f : Pol} (nd : (f.map (·.1)).Nodup) : ∀ p ∈ kvOf f, valV (kvOf f) p.1 = some p.2 ∧ flatB p.2 = true := fun p hp => by
  obtain ⟨t, ht, rfl⟩ := List.mem_map.mp hp
  refine ⟨?_, rfl⟩
  show valV (kvOf f) (Sum.inl t.1) = some (V.int t.2)
  rw [kv_has nd (List.mem_map_of_mem ht), cf_at nd ht]
theorem dk_shows {f : Pol} (h : Sm f) : (dkD f).showable = true ∧ (dkD f).depth ≤ 3 ∧ (dkD f).shown.length ≤ 210 * f.length + 4 := by
  have key : ∀ (f : Pol), (∀ t ∈ f, t.1.natAbs < 10 ^ 100 ∧ t.2.natAbs < 10 ^ 100) → PyData.showableKv (f.map fun t => (PyData.int t.1, PyData.int t.2)) = true ∧ ((PyData.shownKv (f.map fun t => (PyData.int t.1, PyData.int t.2))).map (·.length)).sum ≤ 205 * f.length ∧ (PyData.shownKv (f.map fun t => (PyData.int t.1, PyData.int t.2))).length = f.length := by
    intro f
    induction f with
    | nil => exact fun _ => ⟨rfl, Nat.zero_le _, rfl⟩
    | cons t r ih =>
      intro h
      obtain ⟨a1, a2, a3⟩ := ih fun u hu => h u (List.mem_cons_of_mem _ hu)
      obtain ⟨b1, b2⟩ := int_shows (h t List.mem_cons_self).1
      obtain ⟨c1, c2⟩ := int_shows (h t List.mem_cons_self).2
      refine ⟨?_, ?_, ?_⟩
      · show ((PyData.int t.1).showable && (PyData.int t.2).showable && PyData.showableKv _) = true
        rw [a1, b1, c1]
        rfl
      · show (((PyData.int t.1).shown ++ (": " : Str) ++ (PyData.int t.2).shown).length :: ((PyData.shownKv _).map (·.length))).sum ≤ 205 * (r.length + 1)
        rw [List.sum_cons, strLen_append, strLen_append]
        have : (Str.ofString ": ").length = 2 := rfl
        omega
      · show (PyData.shownKv _).length + 1 = r.length + 1
        rw [a3]
  obtain ⟨a1, a2, a3⟩ := key f h.abs
  refine ⟨a1, ?_, ?_⟩
  · have dz : ∀ (f : Pol), PyData.depthKv (f.map fun t => (PyData.int t.1, PyData.int t.2)) = 0 := fun f => by
      induction f with
      | nil => rfl
      | cons t r ih =>
        show max (max 0 0) (PyData.depthKv _) = 0
        rw [ih]
        rfl
    show PyData.depthKv _ + 1 ≤ 3
    rw [dz]
    omega
  · show (dictText (PyData.shownKv _)).length ≤ _
    have := dictText_len_le (PyData.shownKv (f.map fun t => (PyData.int t.1, PyData.int t.2)))
    rw [a3] at this
    omega
def sp_from_sumsP (K : PySem.W.Frag) : Sp := fun vs H Q _ => ∃ (p : Int) (d : Addr) (m : Pol), vs = [.int p, .ref d] ∧ 0 < p ∧ H d = some (.dK (kvOf m)) ∧ (m.map (·.1)).Nodup ∧ m.length ≤ 1000000 ∧ ∀ v H' g, Same H H' → TPolP K H' v g → Nf p g (cf m) → Q v H'
def sp_normalizeP (K : PySem.W.Frag) : Sp := fun vs H Q _ => ∃ (p : Int) (v : V) (ps : Pol), vs = [.int p, v] ∧ 0 < p ∧ (TPol K H v ps ∨ LPol K H v ps) ∧ ps.length ≤ 1000000 ∧ ∀ u H' g, Same H H' → TPolP K H' u g → Nf p g (cf ps) → Q u H'
def sp__law_polynomialP (K : PySem.W.Frag) : Sp := fun vs H Q _ => ∃ (p c : Addr) (q terms reach : Int) (n : Nat), vs = [.ref p, .int q, .int terms, .int reach] ∧ 2 ≤ q ∧ q ≤ 97 ∧ 0 ≤ terms ∧ terms ≤ 1000 ∧ 0 ≤ reach ∧ reach.natAbs < 10 ^ 90 ∧ PenAt H p c n ∧ n < 2 ^ 39 ∧
  ∀ v H' g, Kp p H H' → PenAt H' p c (n + 2 * terms.toNat + 1) → TPolP K H' v g → Drawn q g terms.toNat reach → Q v H'
def sp__law_effectP (K : PySem.W.Frag) : Sp := fun vs H Q _ => ∃ (p c : Addr) (q terms reach : Int) (n : Nat), vs = [.ref p, .int q, .int terms, .int reach] ∧ 2 ≤ q ∧ q ≤ 97 ∧ 0 ≤ terms ∧ terms ≤ 1000 ∧ 0 ≤ reach ∧ reach.natAbs < 10 ^ 90 ∧ PenAt H p c n ∧ n < 2 ^ 38 ∧
  ∀ v H' g sh, Kp p H H' → PenAt H' p c (n + 2 * terms.toNat + 3) → TEffP K H' v g sh → Drawn q g terms.toNat reach → sh.natAbs ≤ reach.natAbs → Q v H'
def sp__law_wide_effectP (K : PySem.W.Frag) : Sp := fun vs H Q _ => ∃ (p c : Addr) (q terms most : Int) (n : Nat), vs = [.ref p, .int q, .int terms, .int most] ∧ 2 ≤ q ∧ q ≤ 97 ∧ 0 ≤ terms ∧ terms ≤ 100 ∧ 0 ≤ most ∧ most.natAbs < 10 ^ 80 ∧ PenAt H p c n ∧ n < 2 ^ 38 ∧
  ∀ v H' g sh, Kp p H H' → PenAt H' p c (n + 8 * terms.toNat + 10) → TEffP K H' v g sh → DrE q g sh terms.toNat (most.natAbs + 8) → Q v H'
def sp__law_long_effectP (K : PySem.W.Frag) : Sp := fun vs H Q _ => ∃ (p c : Addr) (q many : Int) (n : Nat), vs = [.ref p, .int q, .int many] ∧ 2 ≤ q ∧ q ≤ 97 ∧ 0 ≤ many ∧ many ≤ 1000 ∧ PenAt H p c n ∧ n < 2 ^ 38 ∧
  ∀ v H' g sh, Kp p H H' → PenAt H' p c (n + 5) → TEffP K H' v g sh → DrE q g sh many.toNat 4000 → Q v H'
def sp__law_any_effectP (K : PySem.W.Frag) : Sp := fun vs H Q _ => ∃ (p c : Addr) (q most many : Int) (n : Nat), vs = [.ref p, .int q, .int most, .int many] ∧ 2 ≤ q ∧ q ≤ 97 ∧ 0 ≤ most ∧ most.natAbs < 10 ^ 80 ∧ 0 ≤ many ∧ many ≤ 1000 ∧ PenAt H p c n ∧ n < 2 ^ 37 ∧
  ∀ v H' g sh, Kp p H H' → PenAt H' p c (n + 60) → TEffP K H' v g sh → DrE q g sh 1000 (most.natAbs + 4000) → Q v H'
theorem rd_tupleP {K : PySem.W.Frag} {H0 H : Hp} {D : Addr} {f : Pol} {Q : VK} (g : Grow K H0 D f H) (k : ∀ v H', Same H0 H' → TPolP K H' v f → Q v H') :
    ∃ p ys, [V.ref D] = [V.ref p] ∧ SqL K H p ys ∧ ∀ l o, H l = none → o.dict = none → Q (.ref l) (upd H l (.frz o (.tup ys))) := by
  obtain ⟨xs, h1, h2⟩ := g.ex
  exact ⟨D, xs, rfl, SqL.of h1, fun l o nl hd => k _ _ (g.same.trans (same_new nl)) ⟨l, xs, rfl, ⟨o, hd, upd_same⟩, Prs.tp (tp_new nl) h2⟩⟩
theorem Cal.wk {P : Program} {w : World} {K : PySem.W.Frag} {mg : Str → Option Value} {base : Heap} {k : Nat} {x : Str} {sp sp' : Sp} (c : Cal P w K mg base k x sp) (h : ∀ vs H Q E, sp' vs H Q E → sp vs H Q E) : Cal P w K mg base k x sp' :=
  c.ex.elim fun f z => z.elim fun fd y => y.elim fun ps q => ⟨f, fd, ps, q.1.imp h, q.2⟩
theorem fsum_imp {K : PySem.W.Frag} : ∀ vs H Q E, sp_from_sums K vs H Q E → sp_from_sumsP K vs H Q E := fun vs H Q E h => by
  obtain ⟨p, d, m, e, a, b, c, f, k⟩ := h
  exact ⟨p, d, m, e, a, b, c, f, fun v H' g s t n => k v H' g s t.pol n⟩
theorem nrm_imp {K : PySem.W.Frag} : ∀ vs H Q E, sp_normalize K vs H Q E → sp_normalizeP K vs H Q E := fun vs H Q E h => by
  obtain ⟨p, v, ps, e, a, b, c, k⟩ := h
  exact ⟨p, v, ps, e, a, b, c, fun v H' g s t n => k v H' g s t.pol n⟩
theorem pol_imp {K : PySem.W.Frag} : ∀ vs H Q E, sp__law_polynomial K vs H Q E → sp__law_polynomialP K vs H Q E := fun vs H Q E h => by
  obtain ⟨p, c, q, terms, reach, n, e, a1, a2, a3, a4, a5, a6, a7, a8, k⟩ := h
  exact ⟨p, c, q, terms, reach, n, e, a1, a2, a3, a4, a5, a6, a7, a8, fun v H' g s t u d => k v H' g s t u.pol d⟩
theorem Nf.nodup {p : Int} {g : Pol} {c : Int → Int} (h : Nf p g c) : (g.map (·.1)).Nodup := by
  have a := h.asc
  unfold List.Nodup
  rw [List.pairwise_map]
  exact a.imp fun h z => by rw [z] at h; exact Int.lt_irrefl _ h
/-- apply: new dials, without zeros, and the new place -/
def sp_apply (K : PySem.W.Frag) : Sp := fun vs H Q _ => ∃ (p : Int) (v : V) (f : Pol) (m : Int) (d : Addr) (mm : Pol) (pl : Int), vs = [.int p, v, .ref d, .int pl] ∧ 0 < p ∧ TEff K H v f m ∧ H d = some (.dK (kvOf mm)) ∧ (mm.map (·.1)).Nodup ∧ mm.length ≤ 400000 ∧ f.length ≤ 400000 ∧
  ∀ a e H' g, Same H H' → H a = none → H e = none → a ≠ e → SqT K H' a [.ref e, .int (pl + m)] → H' e = some (.dK (kvOf g)) → Nf p g (fun x => cf mm x + cf f (x - pl)) → Q (.ref a) H'
end DR
namespace DR
open PySem PySem.Spec PyProof.Rows L2
/-! ### the laws' own terms: factor, offset, rounds -/
def LTermV (K : PySem.W.Frag) (H : Hp) (v : V) (t : Tm) : Prop := ∃ a x, v = .ref a ∧ SqT K H a [.int t.co, .int t.pl, x] ∧ TPol K H x t.rs
abbrev LTVs (K : PySem.W.Frag) (H : Hp) : List V → List Tm → Prop := Paired (LTermV K H)
section
variable {K : PySem.W.Frag} {H H' : Hp} {v x : V} {t : Tm} {xs ys : List V} {ts us : List Tm}
theorem LTermV.tp (e : Tp H H') (h : LTermV K H v t) : LTermV K H' v t := by
  obtain ⟨a, x, rfl, hs, hx⟩ := h
  exact ⟨a, x, rfl, tp_t e hs, hx.tp e⟩
theorem LTVs.tp (e : Tp H H') : ∀ {xs : List V} {ts : List Tm}, LTVs K H xs ts → LTVs K H' xs ts
  | _, _, .nil => .nil
  | _, _, .cons r q => .cons (r.tp e) (LTVs.tp e q)
theorem LTVs.app : ∀ {xs : List V} {ts : List Tm}, LTVs K H xs ts → LTVs K H ys us → LTVs K H (xs ++ ys) (ts ++ us)
  | _, _, .nil, h => h
  | _, _, .cons r q, h => .cons r (LTVs.app q h)
theorem LTVs.len (h : LTVs K H xs ts) : xs.length = ts.length := Paired.length h
theorem LTVs.get : ∀ {xs : List V} {ts : List Tm} {i : Nat} {x : V}, LTVs K H xs ts → xs[i]? = some x → ∃ t, ts[i]? = some t ∧ LTermV K H x t
  | _, _, _, _, .nil, e => by simp at e
  | _, _, 0, _, .cons r _, e => by
    simp at e
    subst e
    exact ⟨_, rfl, r⟩
  | _, _, i + 1, x, .cons _ q, e => by
    obtain ⟨t, h1, h2⟩ := LTVs.get (i := i) (x := x) q (by simpa using e)
    exact ⟨t, by simpa using h1, h2⟩
def tmD (t : Tm) : PyData := .tuple [.int t.co, .int t.pl, pd t.rs]
theorem LTermV.dp (h : LTermV K H v t) : Dp K H v (tmD t) := by
  obtain ⟨a, x, rfl, hs, hx⟩ := h
  exact .tup hs (.cons (.int _) (.cons (.int _) (.cons hx.dp .nil)))
theorem LTVs.dp : ∀ {xs : List V} {ts : List Tm}, LTVs K H xs ts → DpAll K H xs (ts.map tmD)
  | _, _, .nil => .nil
  | _, _, .cons r q => .cons r.dp (LTVs.dp q)
end
theorem tmDs_lay : ∀ ts : List Tm, PyData.canLayAll0 (ts.map tmD) = true ∧ PyData.depthAll (ts.map tmD) ≤ 3
  | [] => ⟨rfl, Nat.zero_le _⟩
  | t :: r => by
    obtain ⟨a, b⟩ := tmDs_lay r
    obtain ⟨c, d⟩ := prs_lay t.rs
    refine ⟨?_, ?_⟩
    · show ((true && (true && (PyData.canLayAll0 (t.rs.map pr) && true))) && PyData.canLayAll0 (r.map tmD)) = true
      rw [a, c]
      rfl
    · show max (max 0 (max 0 (max (PyData.depthAll (t.rs.map pr) + 1) 0)) + 1) (PyData.depthAll (r.map tmD)) ≤ 3
      omega
theorem tmDs_shaped (ts : List Tm) : SeqAt.shaped (.list (ts.map tmD)) = true := by
  obtain ⟨a, b⟩ := tmDs_lay ts
  show (PyData.canLayAll0 (ts.map tmD) && decide (PyData.depthAll (ts.map tmD) + 1 ≤ 64)) = true
  rw [a, decide_eq_true (by omega)]
  rfl
structure LOk (k : Nat) (t : Tm) : Prop where
  co : t.co.natAbs ≤ 2 ^ 100
  len : t.rs.length + 1 ≤ k
  rs : ∀ r ∈ t.rs, 1 ≤ r.1 ∧ r.1 ≤ 2 ^ 100 ∧ r.2.natAbs ≤ 2 ^ 331
def sp__law_terms (K : PySem.W.Frag) (k : Nat) : Sp := fun vs H Q _ => ∃ (v : V) (b : List Ins), vs = [v] ∧ PV K H v b ∧ dpP b < k ∧ k ≤ 3 ∧ WP b ∧ NP b ∧ cnP b ≤ 1024 ∧
  ∀ D ys ts H', Same H H' → H D = none → H' D = some (.lst ys) → LTVs K H' ys ts → (∀ x, tvs ts x = seP b x) → (∀ t ∈ ts, LOk k t) → ts.length ≤ cnP b → Q (.ref D) H'
def sp__law_below : Sp := fun vs H Q _ => ∃ (p c : Addr) (n : Int) (m : Nat), vs = [.ref p, .int n] ∧ 1 ≤ n ∧ n ≤ 2 ^ 100 ∧ PenAt H p c m ∧ m < 2 ^ 39 ∧ ∀ r H', 0 ≤ r → r < n → Kp p H H' → PenAt H' p c (m + 3) → Q (.int r) H'
def sp__law_within : Sp := fun vs H Q _ => ∃ (z : Int), vs = [.int z] ∧ ∀ y : Int, y.natAbs ≤ 10 ^ 30 → Q (.int y) H
def sp__law_touched (K : PySem.W.Frag) : Sp := fun vs H Q _ => ∃ (p c : Addr) (v : V) (b : List Ins) (m : Nat), vs = [.ref p, v] ∧ PV K H v b ∧ dpP b < 3 ∧ WP b ∧ NP b ∧ cnP b ≤ 1024 ∧ PenAt H p c m ∧ m < 2 ^ 38 ∧ ∀ z H', Kp p H H' → PenAt H' p c (m + 10) → Q (.int z) H'
def sp__law_flat_program (K : PySem.W.Frag) : Sp := fun vs H Q _ => ∃ (p c : Addr) (most reach rounds : Int) (n : Nat), vs = [.ref p, .int most, .int reach, .int rounds] ∧ 0 ≤ most ∧ most ≤ 20 ∧ 0 ≤ reach ∧ reach ≤ 10 ^ 30 ∧ 0 ≤ rounds ∧ rounds ≤ 10 ^ 30 ∧ PenAt H p c n ∧ n < 2 ^ 38 ∧
  ∀ F xs b H', Kp p H H' → PenAt H' p c (n + 200) → H' F = some (.lst xs) → IVs K H' xs b → PrR b 1 (3 * most.toNat + 1) rounds → Q (.ref F) H'
def sp__law_short_program (K : PySem.W.Frag) : Sp := fun vs H Q _ => ∃ (p c : Addr) (most reach rounds : Int) (n : Nat), vs = [.ref p, .int most, .int reach, .int rounds] ∧ 0 ≤ most ∧ most ≤ 20 ∧ 0 ≤ reach ∧ reach ≤ 10 ^ 30 ∧ 0 ≤ rounds ∧ rounds ≤ 10 ^ 30 ∧ PenAt H p c n ∧ n < 2 ^ 37 ∧
  ∀ F xs b H', Kp p H H' → PenAt H' p c (n + 400) → H' F = some (.lst xs) → IVs K H' xs b → PrR b 2 (5 * most.toNat + 2) rounds → Q (.ref F) H'
/-- [an int for x, y in a tuple of pairs], drawn by the pen -/
theorem lcPenT {K : PySem.W.Frag} {a p c : Addr} {xs : List V} {f : Pol} {σ : L2.St} {H : Hp} {vs : List Nat} {i j : Nat} {te tv' : TE} {Q : VK} (hv : ∀ R : VK, R (.ref a) H → tv' σ H R) (hs : SqT K H a xs) (hP : Prs K H xs f) (hl : f.length ≤ 1000) (b cost : Nat) (pen : PenAt H p c b)
    (hw : ∀ x y, wipe (((wipe σ vs).set i (some x)).set j (some y)) vs = wipe σ vs)
    (he : ∀ t ∈ f, ∀ (m : Nat) H2, m < f.length → PenAt H2 p c (b + cost * m) → ∀ S : VK, (∀ z H3, Kp p H2 H3 → PenAt H3 p c (b + cost * (m + 1)) → S (.int z) H3) → te (((wipe σ vs).set i (some (.int t.1))).set j (some (.int t.2))) H2 S)
    (k : ∀ D H2 (zs : List Int), H2 D = some (.lst (zs.map V.int)) → Kp p H H2 → PenAt H2 p c (b + cost * f.length) → Q (.ref D) H2) : tLc (iTup K tv') (gTup K 2 (gCons (gName i) (gCons (gName j) gNil))) tYes te vs σ H Q := by
  refine hv _ ⟨a, rfl, ⟨_, hs⟩, fun D nD => ?_⟩
  have npD := pen.np nD
  have ncD := pen.nc nD
  refine lc_tup (K := K) (a := a) (xs := xs) (fun m H2 => ∃ zs : List Int, H2 D = some (.lst (zs.map V.int)) ∧ zs.length = m ∧ Kp p H H2 ∧ PenAt H2 p c (b + cost * m)) ⟨[], upd_same, rfl, Same.kp (same_new nD), pen.same (same_new nD)⟩ (fun m H2 _ ⟨_, _, _, k2, _⟩ => tp_t (pen.tp k2) hs) ?_ ?_
  · rintro m x H2 hm ⟨zs, hD, hzl, k2, pen2⟩
    obtain ⟨t, ht, q, rfl, hq⟩ := hP.get hm
    refine ⟨q, _, rfl, tp_t (pen.tp k2) hq, rfl, _, _, rfl, _, _, rfl, rfl, hw _ _, ?_⟩
    dsimp only [tYes]
    rw [if_pos rfl]
    have hm2 : m < f.length := (List.getElem?_eq_some_iff.mp ht).1
    refine he t (List.mem_of_getElem? ht) m H2 hm2 pen2 _ fun z H3 k3 pen3 => ⟨zs.map V.int, k3 _ _ npD hD, sl_lt (by rw [List.length_map]; omega), zs ++ [z], ?_, by rw [List.length_append, hzl]; rfl, fun y o ny ey => ?_, pen3.upd npD ncD⟩
    · rw [upd_same, List.map_append]
      rfl
    · rw [upd_ne (ne_of_none ey nD)]
      exact k3 _ _ ny (k2 _ _ ny ey)
  · rintro H2 ⟨zs, hD, hzl, k2, pen2⟩
    rw [hP.len] at pen2
    exact k D H2 zs hD k2 pen2
end DR
namespace DR
open PySem PySem.Spec PyProof.Rows L2
/-! ### steps times a factor; a program taken back -/
mutual
def stI (f : Int) : Ins → Ins
  | .step c => .step (c * f)
  | .turn c => .turn c
  | .rep n b => .rep n (stP f b)
def stP (f : Int) : List Ins → List Ins
  | [] => []
  | i :: r => stI f i :: stP f r
end
mutual
def bkI : Ins → Ins
  | .step c => .step (0 - c)
  | .turn c => .turn (0 - c)
  | .rep n b => .rep n (bkP b)
def bkP : List Ins → List Ins
  | [] => []
  | i :: r => bkP r ++ [bkI i]
end
mutual
def CI (M : Nat) : Ins → Prop
  | .step c => c.natAbs ≤ M
  | .turn c => c.natAbs ≤ M
  | .rep _ b => CP M b
def CP (M : Nat) : List Ins → Prop
  | [] => True
  | i :: r => CI M i ∧ CP M r
end
theorem stP_nil (f : Int) : stP f [] = [] := by rw [stP]
theorem stP_cons (f : Int) (i : Ins) (r : List Ins) : stP f (i :: r) = stI f i :: stP f r := by rw [stP]
theorem bkP_nil : bkP [] = [] := by rw [bkP]
theorem bkP_cons (i : Ins) (r : List Ins) : bkP (i :: r) = bkP r ++ [bkI i] := by rw [bkP]
theorem CP_cons (M : Nat) (i : Ins) (r : List Ins) : CP M (i :: r) = (CI M i ∧ CP M r) := by rw [CP]
theorem CP_app {M : Nat} : ∀ {a b : List Ins}, CP M a → CP M b → CP M (a ++ b)
  | [], b, _, h => h
  | i :: r, b, h, h2 => by
    rw [List.cons_append, CP_cons]
    rw [CP_cons] at h
    exact ⟨h.1, CP_app h.2 h2⟩
theorem flat_cp {N R : Nat} : ∀ {b : List Ins}, Flat b N R → CP R b
  | [], _ => by rw [CP]; trivial
  | i :: r, h => by
    rw [CP_cons]
    refine ⟨?_, flat_cp (b := r) ⟨Nat.le_trans (Nat.le_succ _) h.len, fun j hj => h.flat j (List.mem_cons_of_mem _ hj), fun j hj => h.cnt j (List.mem_cons_of_mem _ hj)⟩⟩
    have h1 := h.flat i List.mem_cons_self
    have h2 := h.cnt i List.mem_cons_self
    cases i with
    | step c => rw [CI]; exact h2
    | turn c => rw [CI]; exact h2
    | rep n b => exact absurd h1 id
theorem stP_app (f : Int) : ∀ a b : List Ins, stP f (a ++ b) = stP f a ++ stP f b
  | [], b => by rw [stP_nil]; rfl
  | i :: r, b => by rw [List.cons_append, stP_cons, stP_cons, stP_app f r b]; rfl
theorem bkP_app : ∀ a b : List Ins, bkP (a ++ b) = bkP b ++ bkP a
  | [], b => by rw [bkP_nil, List.append_nil]; rfl
  | i :: r, b => by rw [List.cons_append, bkP_cons, bkP_cons, bkP_app r b, List.append_assoc]
theorem st_len (f : Int) : ∀ b : List Ins, (stP f b).length = b.length
  | [] => by rw [stP_nil]
  | i :: r => by rw [stP_cons, List.length_cons, List.length_cons, st_len f r]
theorem bk_len : ∀ b : List Ins, (bkP b).length = b.length
  | [] => by rw [bkP_nil]
  | i :: r => by rw [bkP_cons, List.length_append, bk_len r]; rfl
mutual
theorem stI_dp (f : Int) : ∀ i : Ins, dpI (stI f i) = dpI i
  | .step c => by rw [stI, dpI, dpI]
  | .turn c => by rw [stI]
  | .rep n b => by rw [stI, dpI, dpI, st_dp f b]
theorem st_dp (f : Int) : ∀ b : List Ins, dpP (stP f b) = dpP b
  | [] => by rw [stP_nil]
  | i :: r => by rw [stP_cons, dpP_cons, dpP_cons, stI_dp f i, st_dp f r]
end
mutual
theorem stI_cn (f : Int) : ∀ i : Ins, cnI (stI f i) = cnI i
  | .step c => by rw [stI, cnI, cnI]
  | .turn c => by rw [stI]
  | .rep n b => by rw [stI, cnI, cnI, st_cn f b]
theorem st_cn (f : Int) : ∀ b : List Ins, cnP (stP f b) = cnP b
  | [] => by rw [stP_nil]
  | i :: r => by rw [stP_cons, cnP_cons, cnP_cons, stI_cn f i, st_cn f r]
end
mutual
theorem bkI_dp : ∀ i : Ins, dpI (bkI i) = dpI i
  | .step c => by rw [bkI, dpI, dpI]
  | .turn c => by rw [bkI, dpI, dpI]
  | .rep n b => by rw [bkI, dpI, dpI, bk_dp b]
theorem bk_dp : ∀ b : List Ins, dpP (bkP b) = dpP b
  | [] => by rw [bkP_nil]
  | i :: r => by
    rw [bkP_cons, dpP_app, dpP_cons, dpP_cons, bkI_dp i, bk_dp r, show dpP [] = 0 by unfold dpP; rfl]
    omega
end
mutual
theorem bkI_cn : ∀ i : Ins, cnI (bkI i) = cnI i
  | .step c => by rw [bkI, cnI, cnI]
  | .turn c => by rw [bkI, cnI, cnI]
  | .rep n b => by rw [bkI, cnI, cnI, bk_cn b]
theorem bk_cn : ∀ b : List Ins, cnP (bkP b) = cnP b
  | [] => by rw [bkP_nil]
  | i :: r => by
    rw [bkP_cons, cnP_app, cnP_cons, cnP_cons, bkI_cn i, bk_cn r, show cnP [] = 0 by unfold cnP; rfl]
    omega
end
mutual
theorem stI_np (f : Int) : ∀ i : Ins, NI i → NI (stI f i)
  | .step c, _ => by rw [stI, NI]; trivial
  | .turn c, h => by rw [stI]; exact h
  | .rep n b, h => by
    rw [NI] at h
    rw [stI, NI]
    exact ⟨h.1, st_np f b h.2⟩
theorem st_np (f : Int) : ∀ b : List Ins, NP b → NP (stP f b)
  | [], h => by rw [stP_nil]; exact h
  | i :: r, h => by
    rw [NP_cons] at h
    rw [stP_cons, NP_cons]
    exact ⟨stI_np f i h.1, st_np f r h.2⟩
end
mutual
theorem bkI_np : ∀ i : Ins, NI i → NI (bkI i)
  | .step c, _ => by rw [bkI, NI]; trivial
  | .turn c, h => by rw [bkI, NI]; trivial
  | .rep n b, h => by
    rw [NI] at h
    rw [bkI, NI]
    exact ⟨h.1, bk_np b h.2⟩
theorem bk_np : ∀ b : List Ins, NP b → NP (bkP b)
  | [], h => by rw [bkP_nil]; exact h
  | i :: r, h => by
    rw [NP_cons] at h
    rw [bkP_cons]
    refine NP_app _ _ (bk_np r h.2) ?_
    rw [NP_cons]
    exact ⟨bkI_np i h.1, by rw [NP]; trivial⟩
end
mutual
theorem stI_w {f : Int} {M : Nat} (hf : f.natAbs ≤ 16) (hM : M * 16 ≤ 2 ^ 100) : ∀ i : Ins, CI M i → WI i → WI (stI f i)
  | .step c, h, _ => by
    rw [CI] at h
    rw [stI, WI, Int.natAbs_mul]
    exact Nat.le_trans (Nat.mul_le_mul h hf) hM
  | .turn c, _, w => by rw [stI]; exact w
  | .rep n b, h, w => by
    rw [CI] at h
    rw [WI] at w
    rw [stI, WI, st_len]
    exact ⟨w.1, w.2.1, st_w hf hM b h w.2.2⟩
theorem st_w {f : Int} {M : Nat} (hf : f.natAbs ≤ 16) (hM : M * 16 ≤ 2 ^ 100) : ∀ b : List Ins, CP M b → WP b → WP (stP f b)
  | [], _, w => by rw [stP_nil]; exact w
  | i :: r, h, w => by
    rw [CP_cons] at h
    rw [WP] at w
    rw [stP_cons, WP]
    exact ⟨stI_w hf hM i h.1 w.1, st_w hf hM r h.2 w.2⟩
end
mutual
theorem bkI_w : ∀ i : Ins, WI i → WI (bkI i)
  | .step c, w => by
    rw [WI] at w
    rw [bkI, WI, Int.zero_sub, Int.natAbs_neg]
    exact w
  | .turn c, w => by
    rw [WI] at w
    rw [bkI, WI, Int.zero_sub, Int.natAbs_neg]
    exact w
  | .rep n b, w => by
    rw [WI] at w
    rw [bkI, WI, bk_len]
    exact ⟨w.1, w.2.1, bk_w b w.2.2⟩
theorem bk_w : ∀ b : List Ins, WP b → WP (bkP b)
  | [], w => by rw [bkP_nil]; exact w
  | i :: r, w => by
    rw [WP] at w
    rw [bkP_cons]
    refine WP_app _ _ (bk_w r w.2) ?_
    rw [WP]
    exact ⟨bkI_w i w.1, by rw [WP]; trivial⟩
end
mutual
theorem shI_st (f : Int) : ∀ i : Ins, shI (stI f i) = f * shI i
  | .step c => by rw [stI, shI, shI, Int.mul_comm]
  | .turn c => by rw [stI, shI, Int.mul_zero]
  | .rep n b => by rw [stI, shI, shI, shP_st f b, Int.mul_left_comm]
theorem shP_st (f : Int) : ∀ b : List Ins, shP (stP f b) = f * shP b
  | [] => by rw [stP_nil, shP_nil, Int.mul_zero]
  | i :: r => by rw [stP_cons, shP_cons, shP_cons, shI_st f i, shP_st f r, Int.mul_add]
end
mutual
theorem shI_bk : ∀ i : Ins, shI (bkI i) = - shI i
  | .step c => by rw [bkI, shI, shI]; omega
  | .turn c => by rw [bkI, shI, shI]; rfl
  | .rep n b => by rw [bkI, shI, shI, shP_bk b, Int.mul_neg]
theorem shP_bk : ∀ b : List Ins, shP (bkP b) = - shP b
  | [] => by rw [bkP_nil, shP_nil]; rfl
  | i :: r => by
    rw [bkP_cons, shP_app, shP_cons, shP_cons, shP_nil, shI_bk i, shP_bk r]
    omega
end
theorem rsum_scale {f : Int} {g h : Int → Int} (e : ∀ x, g (f * x) = h x) (s : Int) : ∀ (n : Nat) (x : Int), rsum g (f * s) n (f * x) = rsum h s n x
  | 0, _ => rfl
  | n + 1, x => by
    show rsum g (f * s) n (f * x) + g (f * x - n * (f * s)) = rsum h s n x + h (x - n * s)
    rw [rsum_scale e s n x, ← e, Int.mul_sub, Int.mul_left_comm]
theorem rsum_off {f : Int} {g : Int → Int} (e : ∀ x, ¬ f ∣ x → g x = 0) (s : Int) : ∀ (n : Nat) (x : Int), ¬ f ∣ x → rsum g (f * s) n x = 0
  | 0, _, _ => rfl
  | n + 1, x, h => by
    show rsum g (f * s) n x + g (x - n * (f * s)) = 0
    rw [rsum_off e s n x h, e]
    · rfl
    · intro d
      have h2 : f ∣ (n : Int) * (f * s) := ⟨n * s, by rw [Int.mul_left_comm]⟩
      have h3 := Int.dvd_add d h2
      rw [Int.sub_add_cancel] at h3
      exact h h3
mutual
theorem seI_st {f : Int} (hf : f ≠ 0) : ∀ (i : Ins) (x : Int), seI (stI f i) (f * x) = seI i x
  | .step c, x => by rw [stI, seI, seI]
  | .turn c, x => by
    rw [stI, seI, seI]
    by_cases h : x = 0
    · rw [if_pos h, if_pos (by rw [h, Int.mul_zero])]
    · rw [if_neg h, if_neg (fun z => (Int.mul_eq_zero.mp z).elim hf h)]
  | .rep n b, x => by
    rw [stI, seI, seI, shP_st]
    exact rsum_scale (fun y => seP_st hf b y) (shP b) n.toNat x
theorem seP_st {f : Int} (hf : f ≠ 0) : ∀ (b : List Ins) (x : Int), seP (stP f b) (f * x) = seP b x
  | [], x => by rw [stP_nil, seP_nil, seP_nil]
  | i :: r, x => by rw [stP_cons, seP_cons, seP_cons, seI_st hf i x, shI_st, ← Int.mul_sub, seP_st hf r]
end
mutual
theorem seI_off {f : Int} : ∀ (i : Ins) (x : Int), ¬ f ∣ x → seI (stI f i) x = 0
  | .step c, x, _ => by rw [stI, seI]
  | .turn c, x, h => by
    rw [stI, seI]
    refine if_neg fun z => h ?_
    rw [z]
    exact Int.dvd_zero f
  | .rep n b, x, h => by
    rw [stI, seI, shP_st]
    exact rsum_off (fun y hy => seP_off b y hy) (shP b) n.toNat x h
theorem seP_off {f : Int} : ∀ (b : List Ins) (x : Int), ¬ f ∣ x → seP (stP f b) x = 0
  | [], x, _ => by rw [stP_nil, seP_nil]
  | i :: r, x, h => by
    rw [stP_cons, seP_cons, seI_off i x h, shI_st, seP_off r]
    · rfl
    · intro d
      exact h (by have := Int.dvd_add d (⟨shI i, rfl⟩ : f ∣ f * shI i); rwa [Int.sub_add_cancel] at this)
end
theorem rsum_first (f : Int → Int) (s : Int) : ∀ (n : Nat) (x : Int), rsum f s (n + 1) x = f x + rsum f s n (x - s)
  | 0, x => by
    show 0 + f (x - ((0 : Nat) : Int) * s) = f x + 0
    rw [Int.zero_add, Int.add_zero, Int.natCast_zero, Int.zero_mul, Int.sub_zero]
  | n + 1, x => by
    show rsum f s (n + 1) x + f (x - ((n + 1 : Nat) : Int) * s) = f x + (rsum f s n (x - s) + f (x - s - n * s))
    rw [rsum_first f s n x, Int.add_assoc, Int.natCast_succ, Int.add_mul, Int.one_mul, show x - ((n : Int) * s + s) = x - s - n * s by omega]
theorem rsum_undo {f g : Int → Int} {s : Int} (e : ∀ x, g (x - s) = - f x) : ∀ (n : Nat) (x : Int), rsum g (-s) n (x - n * s) = - rsum f s n x
  | 0, _ => rfl
  | n + 1, x => by
    rw [rsum_first g, show x - ((n + 1 : Nat) : Int) * s - -s = x - n * s by rw [Int.natCast_succ, Int.add_mul, Int.one_mul]; omega, rsum_undo e n x]
    show g (x - ((n + 1 : Nat) : Int) * s) + - rsum f s n x = - (rsum f s n x + f (x - n * s))
    rw [show x - ((n + 1 : Nat) : Int) * s = (x - n * s) - s by rw [Int.natCast_succ, Int.add_mul, Int.one_mul]; omega, e]
    omega
mutual
theorem seI_bk : ∀ (i : Ins) (x : Int), NI i → seI (bkI i) (x - shI i) = - seI i x
  | .step c, x, _ => by rw [bkI, seI, seI]; rfl
  | .turn c, x, _ => by
    rw [bkI, seI, seI, shI, Int.sub_zero]
    split <;> omega
  | .rep n b, x, h => by
    rw [NI] at h
    rw [bkI, seI, seI, shI, shP_bk]
    have := rsum_undo (f := fun y => seP b y) (g := fun y => seP (bkP b) y) (s := shP b) (fun y => seP_bk b y h.2) n.toNat x
    rw [Int.toNat_of_nonneg h.1] at this
    exact this
theorem seP_bk : ∀ (b : List Ins) (x : Int), NP b → seP (bkP b) (x - shP b) = - seP b x
  | [], x, _ => by rw [bkP_nil, seP_nil, seP_nil]; rfl
  | i :: r, x, h => by
    rw [NP_cons] at h
    have h1 := seP_bk r (x - shI i) h.2
    have h2 := seI_bk i x h.1
    rw [bkP_cons, seP_app, seP_cons, seP_nil, shP_bk, shP_cons, seP_cons, Int.add_zero, show x - (shI i + shP r) - - shP r = x - shI i by omega, show x - (shI i + shP r) = x - shI i - shP r by omega, h1, h2]
    omega
end
theorem er_inS {H Hc H3 : Hp} {D : Addr} {ys : List V} (k : Same H Hc) (hD : Hc D = some (.lst ys)) : Same (er Hc H3) (er1 D (er H H3)) := fun b o e => by
  obtain ⟨h1, h2⟩ := er_at e
  exact er1_of (fun z => h2 ys (z ▸ hD)) (er_of h1 fun xs z => h2 xs (k _ _ z))
theorem er1_sameS {D : Addr} {H H2 H3 : Hp} (s : Same H2 H3) : Same (er1 D (er H H2)) (er1 D (er H H3)) := fun b o e => by
  obtain ⟨h1, h2⟩ := er1_at e
  exact er1_of h1 (er_same s _ _ h2)
theorem er1_updS {D : Addr} {H H2 : Hp} {o : HO} : Same (er1 D (er H H2)) (er1 D (er H (upd H2 D o))) := fun b u e => by
  obtain ⟨h1, h2⟩ := er1_at e
  obtain ⟨h3, h4⟩ := er_at h2
  exact er1_of h1 (er_of (by rw [upd_ne h1]; exact h3) h4)
theorem er1_tup {D t : Addr} {H H2 : Hp} {us ys : List V} {o : HO} (s : Same H H2) (nt : H2 t = none) (hD : H2 D = some (.lst ys)) : er1 D (er H (upd (upd H2 t (.tup us)) D o)) t = some (.tup us) := by
  have ne : t ≠ D := (ne_of_none hD nt).symm
  refine er1_of ne (er_of (by rw [upd_ne ne, upd_same]) fun xs z => ?_)
  rw [s _ _ z] at nt
  cases nt
def sp__law_backward (K : PySem.W.Frag) (k : Nat) : Sp := fun vs H Q _ => ∃ (v : V) (b : List Ins), vs = [v] ∧ PV K H v b ∧ dpP b < k ∧ k ≤ 3 ∧ cnP b ≤ 1024 ∧ ∀ D ys H', Same H H' → H' D = some (.lst ys) → IVs K H' ys (bkP b) → Q (.ref D) H'
def sp__law_stepped (K : PySem.W.Frag) (k : Nat) : Sp := fun vs H Q _ => ∃ (v : V) (f : Int) (b : List Ins), vs = [v, .int f] ∧ PV K H v b ∧ dpP b < k ∧ k ≤ 3 ∧ cnP b ≤ 1024 ∧ WP b ∧ f.natAbs ≤ 16 ∧ ∀ D H', Same H H' → PV K (er H H') (.ref D) (stP f b) → Q (.ref D) H'
def sp__law_flat_programC (K : PySem.W.Frag) : Sp := fun vs H Q _ => ∃ (p c : Addr) (most reach rounds : Int) (n : Nat), vs = [.ref p, .int most, .int reach, .int rounds] ∧ 0 ≤ most ∧ most ≤ 20 ∧ 0 ≤ reach ∧ reach ≤ 10 ^ 30 ∧ 0 ≤ rounds ∧ rounds ≤ 10 ^ 30 ∧ PenAt H p c n ∧ n < 2 ^ 38 ∧
  ∀ F xs b H', Kp p H H' → PenAt H' p c (n + 200) → H' F = some (.lst xs) → IVs K H' xs b → PrR b 1 (3 * most.toNat + 1) rounds → CP (reach.natAbs + 3) b → Q (.ref F) H'
def sp__law_short_programC (K : PySem.W.Frag) : Sp := fun vs H Q _ => ∃ (p c : Addr) (most reach rounds : Int) (n : Nat), vs = [.ref p, .int most, .int reach, .int rounds] ∧ 0 ≤ most ∧ most ≤ 20 ∧ 0 ≤ reach ∧ reach ≤ 10 ^ 30 ∧ 0 ≤ rounds ∧ rounds ≤ 10 ^ 30 ∧ PenAt H p c n ∧ n < 2 ^ 37 ∧
  ∀ F xs b H', Kp p H H' → PenAt H' p c (n + 400) → H' F = some (.lst xs) → IVs K H' xs b → PrR b 2 (5 * most.toNat + 2) rounds → CP (reach.natAbs + 3) b → Q (.ref F) H'
end DR
namespace DR
open PySem PySem.Spec PyProof.Rows L2
/-! ### programs and effects -/
mutual
theorem exI_bk : ∀ i : Ins, exI (bkI i) = exI i
  | .step _ => by rw [bkI, exI, exI]
  | .turn _ => by rw [bkI, exI, exI]
  | .rep n b => by rw [bkI, exI, exI, exP_bk b]
theorem exP_bk : ∀ b : List Ins, exP (bkP b) = exP b
  | [] => by rw [bkP_nil]
  | i :: r => by
    rw [bkP_cons, exP_app, exP_bk r, exP_cons, exP_nil, exI_bk i, exP_cons]
    omega
end
theorem rsum_pw (f : Int → Int) (s : Int) : ∀ (n : Nat) (x : Int), rsum f s n x = pwF f s n x
  | 0, x => rfl
  | n + 1, x => by
    show rsum f s n x + f (x - n * s) = _
    rw [rsum_pw f s n x, show ((n + 1 : Nat) : Int) = (n : Int) + 1 by omega, pw_succ]
theorem se_rep {n : Int} (h : 0 ≤ n) (b : List Ins) (x : Int) : seP [.rep n b] x = pwF (seP b) (shP b) n x := by
  rw [seP_cons, seP_nil, Int.add_zero, seI]
  show rsum (seP b) _ _ x = _
  rw [rsum_pw, Int.toNat_of_nonneg h]
theorem sh_rep1 (n : Int) (b : List Ins) : shP [.rep n b] = n * shP b := by
  rw [shP_cons, shP_nil, shI, Int.add_zero]
theorem ex_rep1 (n : Int) (b : List Ins) : exP [.rep n b] = n * exP b := by
  rw [exP_cons, exP_nil, exI, Int.add_zero]
theorem bk_fn {b : List Ins} (h : NP b) (x : Int) : seP (bkP b) x = seP b (x + shP b) * -1 := by
  have := seP_bk b (x + shP b) h
  rw [show x + shP b - shP b = x by omega] at this
  omega
theorem nf_none {p : Int} {d : Pol} {F : Int → Int} (h : Nf p d F) (z : ∀ e, F e = 0) : d = [] := h.uniq (F' := fun _ => 0) (g' := []) ⟨List.Pairwise.nil, fun t ht => absurd ht List.not_mem_nil, fun e => (Int.zero_emod _).symm⟩ fun e => by rw [z]
def sp_effect_ofE (K : PySem.W.Frag) : Sp := fun vs H Q _ => ∃ (p : Int) (v : V) (b : List Ins), vs = [.int p, v] ∧ 0 < p ∧ PV K H v b ∧ dpP b < 3 ∧ WP b ∧ b.length ≤ 1024 ∧ NP b ∧ exP b ≤ 10000 ∧
  ∀ u H' g, Same H H' → TEff K H' u g (shP b) → Nf p g (seP b) → (g.length : Int) ≤ exP b → Q u H'
theorem TEff.sm {K : PySem.W.Frag} {H H' : Hp} {v : V} {f : Pol} {n : Int} (s : Same H H') (h : TEff K H v f n) : TEff K H' v f n := h.tp (Same.tp s)
theorem TEff.sh {K : PySem.W.Frag} {H : Hp} {v : V} {f : Pol} {m n : Int} (e : m = n) (h : TEff K H v f m) : TEff K H v f n := e ▸ h
end DR
/-! ### tuple(d.items()) -/
namespace DR
open PySem PySem.Spec PyProof.Rows L2
section
variable {prog : Program} {w : World} {A : Around} {E : Value → Shared → Prop} {s : Shared} {K : Type} [DecidableEq K] {knd : KeyKind prog w K} {kvs : List (K × Value)} {view d : Addr} {ep : Nat}
/-- what comes behind: the new pairs at as, and a new tuple of them -/
def AfterItems (knd : KeyKind prog w K) (kvs : List (K × Value)) (s : Shared) (Q : Value → Shared → Prop) : Prop :=
  ∀ (h1 : Heap) (tk : Nat) (as : List Addr), (∀ b o, s.heap.get? b = some o → h1.get? b = some o) → as.length = kvs.length → PySem.W.KdxG knd kvs s.heap.objs.size h1 as →
    Q (.ref h1.objs.size) { s with heap := h1.push ⟨.type "tuple", none, .seq (as.map Value.ref).toArray 0, #[]⟩, toks := tk }
theorem made_items {Q : Value → Shared → Prop} (calm : A.handled = none) (hv : s.heap.IsItemsView view d) (hm : s.heap.DictAt knd d kvs ep) (room : kvs.length ≤ sizeLine) (go : AfterItems knd kvs s Q) :
    codeAny (model prog w) A (.call (.builtin "tuple.__new__") ⟨[.type "tuple", .ref view], []⟩) (wants Q E) s := by
  apply codeAny_of_tree
  have body : wpAny (model prog w) A.in1 (Builtin.«tuple.__new__» ⟨[.type "tuple", .ref view], []⟩) (fun fin s' => match fin with | .done f => wants Q E (.ok f) s' | .again c => c.quiet = true ∧ codeAny (model prog w) A c (wants Q E) s') (fun e s' => wants Q E (.error e) s') s := by
    have t1 := sub_tuple_self
    have t2 := init_tuple_lookup
    have t3 := madeHere_tuple
    have tv : s.TypeIs (.ref view) "dict_items" := hv.typeIs
    have still : A.in1.handled = none := calm
    wp_walk using wpAny_typeOf tv, PySem.W.kdx_collect (A := A.in1) still hv hm room
    intro h1 tk as keep len new
    have fits : (as.map Value.ref).toArray.size ≤ sizeLine := by
      rw [List.size_toArray, List.length_map, len]
      exact room
    show wpAny _ _ (Builtin.Tuple.tupleExact (as.map Value.ref).toArray >>= ret) _ _ _
    exact wpAny_bind (wpAny_newObj_type (wpAny_pure (go h1 tk as keep len new)) fits)
  have entry : wpAny (model prog w) A.in1 (again (.builtin "tuple.__new__" ⟨[.type "tuple", .ref view], []⟩)) (fun fin s' => match fin with | .done f => wants Q E (.ok f) s' | .again c => c.quiet = true ∧ codeAny (model prog w) A c (wants Q E) s') (fun e s' => wants Q E (.error e) s') s := by
    apply wpAny_pure
    refine ⟨plainId_quiet F.plain_tuple_new _, codeAny_builtin F.entry_tuple_new ?_⟩
    have same := Around.under_plainId (A := A) F.plain_tuple_new ⟨[.type "tuple", .ref view], []⟩
    rw [same]
    exact body
  exact wpAny_bind (wpAny_of_eq (F.newCall_tuple_1 (.ref view)) entry)
theorem tuple_items {Q : Value → Shared → Prop} (calm : A.handled = none) (hv : s.heap.IsItemsView view d) (hm : s.heap.DictAt knd d kvs ep) (room : kvs.length ≤ sizeLine) (go : AfterItems knd kvs s Q) :
    wpAny (model prog w) A (call (.type "tuple") [.ref view]) Q E s := by
  have first := made_items (A := A.in1) (E := E) (Q := fun v s' => s'.TypeIs v "tuple" ∧ Q v s') calm hv hm room fun h1 tk as a b c => ⟨⟨_, Heap.get?_push_size _ rfl, rfl⟩, go h1 tk as a b c⟩
  refine callType_codes F.called_tuple (F.typeCall_tuple_1 _) F.entry_object_init first ?_
  rintro v s' ⟨ty, end'⟩
  refine ⟨ty, F.args_object_init_2 v _, ?_⟩
  apply object_init_meets F.called_tuple.init.lookup F.called_tuple.made (by decide) prog w A.in1
  exact ⟨ty, rfl, end'⟩
end
section
variable {X : Cx}
/-- the new pairs are known -/
theorem pairs_known {pins : List (Addr × Obj)} {σ : L2.St} {H : Hp} {s : Shared} {h1 : Heap} {tk : Nat} {kvs : List (Key × V)} {vs : List (Key × Value)} {as : List Addr} (I : Inv X pins σ H s) (rel : KV kvs vs)
    (keep : ∀ b o, s.heap.get? b = some o → h1.get? b = some o) (len : as.length = vs.length) (new : PySem.W.KdxG (mixKind X.prog X.w) vs s.heap.objs.size h1 as) :
    ∃ H' : Hp, Same H H' ∧ Paired (fun (t : Addr) (q : Key × V) => H' t = some (.tup [kV q.1, q.2])) as kvs ∧ Inv X pins σ H' { s with heap := h1, toks := tk } := by
  have both : as.length = kvs.length := len.trans rel.length.symm
  have apart : as.Nodup := new.rise.imp fun {a b} lt => Nat.ne_of_lt lt
  have free : ∀ {b : Addr}, b ∈ as → H b = none := fun {b} m => I.hok.fresh (Nat.le_of_lt (new.above b m))
  have far : ∀ {b : Addr} {o : Obj}, s.heap.get? b = some o → b ∉ as := fun {b o} e m => Nat.lt_asymm (Heap.lt_size e) (new.above b m)
  let G := LiI.putT H as kvs
  have out : ∀ {b : Addr}, b ∉ as → G b = H b := fun m => LiI.putT_off as kvs H m
  have known := LiI.putT_at as kvs H both apart
  have old : Same H G := fun b o e => (out fun m => by rw [free m] at e; cases e).trans e
  have ok : HOk X.prog X.w G h1 := fun b u e => by
    by_cases m : b ∈ as
    · obtain ⟨j, kv, i1, i2, i3⟩ := LiI.paired_ix known m
      obtain rfl : u = .tup [kV kv.1, kv.2] := Option.some.inj (e.symm.trans i3)
      obtain ⟨key, k, x, j1, j2, j3⟩ := new.pairs j b i1
      obtain ⟨y, l1, l2, l3⟩ := LiI.paired_get rel i2
      obtain rfl : y = (k, x) := Option.some.inj (l1.symm.trans j1)
      have rk : RelV (kV kv.1) key := by
        have : kv.1 = k := l2
        rw [this]
        exact relV_key j2
      refine ⟨(show 2 ≤ sizeLine by decide), [key, x], .cons rk (.cons l3 .nil), _, j3, rfl, _, rfl⟩
    · exact (I.hok b u ((out m).symm.trans e)).stay (fun c o _ => keep c o) (fun c => old c _) fun c xs => old c _
  refine ⟨G, old, known, I.call' (ch := []) rfl ?_ ok I.bare fun b z => by cases z⟩
  exact ⟨fun b o e _ _ _ => keep b o e, fun b o e _ _ _ => ⟨o.slots, keep b o e⟩, fun b o e n _ => (out (far e)).trans n, fun b o e _ => ⟨o, keep b o e⟩, fun b xs => old b _, fun b o u => old b _, fun b ps e => ⟨#[], by rw [old b _ e]; simp⟩⟩
/-- d.items() of a dict by ints and texts -/
def rItems : V → List V → Hp → VK → Prop := fun x xs H Q => ∃ (a : Addr) (kvs : List (Key × V)), x = .ref a ∧ xs = [] ∧ H a = some (.dK kvs) ∧ ∀ new, H new = none → Q (.ref new) (upd H new (L2.DX.itemsO new a))
theorem mt_items : MtR X "dict.items" rItems := by
  rintro pins s σ H _ _ v us Q I ra rn ⟨a, kvs, rfl, rfl, ha, go⟩
  have ea : v = .ref a := ra
  have en : us = [] := by cases rn; rfl
  subst ea en
  obtain ⟨_, apart, vs, _, o, es, ep, at', exact', data', _⟩ := dk_of I.hok ha
  have J := I.laid (t' := s.toks) (o := L2.DX.itemsO s.heap.objs.size a) (h' := s.heap.push ⟨.type "dict_items", none, .fields #[.ref a], #[]⟩) (fun b u => Heap.get?_push_of_some _) (Nat.le_refl _) (L2.DX.itemsO_ok (Heap.get?_push_size _ rfl))
  exact DT.callItems apart ⟨o, at', exact', data'⟩ ⟨.ref _, _, J, rfl, go _ (I.hok.fresh (Nat.le_refl _))⟩
/-- tuple(the view) -/
theorem call_tupItems (calm : X.calm = true) : CallR X (.type "tuple") (fun xs H Q => ∃ (view a : Addr) (kvs : List (Key × V)), xs = [.ref view] ∧ H view = some (L2.DX.itemsO view a) ∧ H a = some (.dK kvs) ∧
    ∀ H' p ts, Same H H' → H' p = some (.tup (ts.map V.ref)) → Paired (fun (t : Addr) (q : Key × V) => H' t = some (.tup [kV q.1, q.2])) ts kvs → Q (.ref p) H') := by
  rintro pins s σ H _ us Q I r ⟨view, a, kvs, rfl, hv, ha, go⟩
  obtain ⟨v, e, rv⟩ := vals1 r
  have ev : v = .ref view := rv
  subst e ev
  obtain ⟨room, apart, vs, rel, dict⟩ := dk_of I.hok ha
  obtain ⟨ep, hd⟩ := dict.dictAt
  have n : kvs.length = vs.length := rel.length
  refine tuple_items (knd := mixKind X.prog X.w) (kvs := vs) (I.ok.hd calm) (I.hok _ _ hv).1 hd (n ▸ room) ?_
  intro h1 tk as keep len new
  obtain ⟨G, old, known, J⟩ := pairs_known (tk := tk) I rel keep len new
  have free : G h1.objs.size = none := J.hok.fresh (Nat.le_refl _)
  have more := same_new free (o := HO.tup (as.map V.ref))
  have fits : (as.map V.ref).length ≤ sizeLine := by
    rw [List.length_map, len, ← n]
    exact room
  have L := J.laid (t' := tk) (o := .tup (as.map V.ref)) (h' := h1.push ⟨.type "tuple", none, .seq (as.map Value.ref).toArray 0, #[]⟩) (fun b u => Heap.get?_push_of_some _) (Nat.le_refl _) ⟨fits, as.map Value.ref, LiI.vals_refs as, IsTup.new _ _⟩
  exact ⟨.ref _, _, L, rfl, go _ _ as (old.trans more) upd_same (Paired.mapP known fun t q e => more _ _ e)⟩
end
end DR
namespace DR
open PySem PySem.Spec PyProof.Rows L2
/-! ### a dict that was walked is let go -/
theorem sqt_free {K : PySem.W.Frag} {H : Hp} {d a : Addr} {o : Obj} {kvs : List (Key × V)} {xs : List V} {u : HO} (hd : H d = some (.frz o (.dK kvs))) (h : SqT K H a xs) : SqT K (upd H d u) a xs := by
  rcases h with (h | ⟨ob, h⟩) | h
  · exact .inl (.inl (by rw [upd_ne (ne_of h hd (by intro z; cases z))]; exact h))
  · exact .inl (.inr ⟨ob, by rw [upd_ne (ne_of h hd (by intro z; cases z))]; exact h⟩)
  · exact .inr h
theorem prs_free {K : PySem.W.Frag} {H : Hp} {d : Addr} {o : Obj} {kvs : List (Key × V)} {u : HO} (hd : H d = some (.frz o (.dK kvs))) : ∀ {xs : List V} {f : Pol}, Prs K H xs f → Prs K (upd H d u) xs f
  | _, _, .nil => .nil
  | _, _, .cons r q => .cons (r.elim fun a z => ⟨a, z.1, sqt_free hd z.2⟩) (prs_free hd q)
theorem same_free {H H2 : Hp} {d : Addr} {o : Obj} {u : HO} (hd : H d = some u) (s : Same (upd H d (.frz o u)) H2) : Same H (upd H2 d u) := fun b v e => by
  by_cases q : b = d
  · rw [q, upd_same, ← hd, ← q]
    exact e
  · rw [upd_ne q]
    exact s b v (by rw [upd_ne q]; exact e)
def sp__law_moved_dials (K : PySem.W.Frag) : Sp := fun vs H Q _ => ∃ (d : Addr) (m : Pol) (n : Int), vs = [.ref d, .int n] ∧ H d = some (.dK (kvOf m)) ∧ (m.map (·.1)).Nodup ∧ m.length ≤ 100000 ∧ ∀ e H', Same H H' → H e = none → H' e = some (.dK (kvOf (moved n m))) → Q (.ref e) H'
end DR
namespace DR
open PySem PySem.Spec PyProof.Rows L2
theorem apply_len {q : Int} {g mm f : Pol} {pl : Int} (N : Nf q g (fun x => cf mm x + cf f (x - pl))) : g.length ≤ mm.length + f.length := by
  have h := N.len (L := mm.map (·.1) ++ f.map (fun t => t.1 + pl)) fun e he => by
    have z1 : cf mm e = 0 := cf_out fun z => he (List.mem_append_left _ z)
    have z2 : cf f (e - pl) = 0 := cf_out fun z => he (List.mem_append_right _ (by
      obtain ⟨t, ht, et⟩ := List.mem_map.mp z
      exact List.mem_map.mpr ⟨t, ht, by omega⟩))
    show (cf mm e + cf f (e - pl)) % q = 0
    rw [z1, z2]
    rfl
  rw [List.length_append, List.length_map, List.length_map] at h
  exact h
theorem fresh_of {H H' : Hp} (s : Same H H') {a : Addr} (h : H' a = none) : H a = none := by
  cases q : H a with
  | none => rfl
  | some o =>
    rw [s _ _ q] at h
    cases h
end DR
/-! ### dicts whose keys are tuples of any depth -/
namespace DR
open PySem PySem.Spec PyProof.Rows L2
mutual
/-- what is known of a value says that it is this key -/
inductive NkV (K : PySem.W.Frag) (H : Hp) : V → NestedKey → Prop
  | num (i : Int) : NkV K H (.int i) (.num i)
  | txt (x : Str) : NkV K H (.str x) (.text x)
  | row {a : Addr} {xs : List V} {ks : List NestedKey} (place : SqT K H a xs) (each : NkVs K H xs ks) : NkV K H (.ref a) (.tup ks)
inductive NkVs (K : PySem.W.Frag) (H : Hp) : List V → List NestedKey → Prop
  | nil : NkVs K H [] []
  | cons {x : V} {k : NestedKey} {xs : List V} {ks : List NestedKey} (one : NkV K H x k) (rest : NkVs K H xs ks) : NkVs K H (x :: xs) (k :: ks)
end
mutual
theorem nk_is {P : Program} {w : World} {K : PySem.W.Frag} {H : Hp} {h : Heap} (ok : HOk P w H h) (kin : K.In h) : ∀ {v : V} {k : NestedKey} {val : Value}, NkV K H v k → RelV v val → NestedIs h k val
  | _, _, val, .num i, r => by
    obtain ⟨t, rfl⟩ := (show ∃ t, val = Value.int i t from r)
    exact .int i t
  | _, _, val, .txt x, r => by
    obtain ⟨t, rfl⟩ := (show ∃ t, val = Value.str x t from r)
    exact .text x t
  | _, _, val, .row (a := a) place each, r => by
    obtain rfl : val = Value.ref a := r
    obtain ⟨its, o, n, vals, h1, h2, h3⟩ := sqT_at ok kin place
    exact .tup h1 h2 h3 (nks_are ok kin each vals)
theorem nks_are {P : Program} {w : World} {K : PySem.W.Frag} {H : Hp} {h : Heap} (ok : HOk P w H h) (kin : K.In h) : ∀ {xs : List V} {ks : List NestedKey} {us : List Value}, NkVs K H xs ks → Vals xs us → NestedAll h ks us
  | _, _, _, .nil, r => by
    cases r
    exact .nil
  | _, _, _, .cons one rest, r => by
    cases r with
    | cons r1 r2 => exact .cons (nk_is ok kin one r1) (nks_are ok kin rest r2)
end
/-- tuples stay, whatever else is let go or taken -/
def Tq (H H' : Hp) : Prop := ∀ (K : PySem.W.Frag) (a : Addr) (xs : List V), SqT K H a xs → SqT K H' a xs
theorem Tp.tq {H H' : Hp} (t : Tp H H') : Tq H H' := fun _ _ _ h => tp_t t h
theorem Tq.refl (H : Hp) : Tq H H := fun _ _ _ h => h
theorem Tq.trans {H H1 H2 : Hp} (s : Tq H H1) (t : Tq H1 H2) : Tq H H2 := fun K a xs h => t K a xs (s K a xs h)
mutual
theorem NkV.tq {K : PySem.W.Frag} {H H' : Hp} (t : Tq H H') : ∀ {v : V} {k : NestedKey}, NkV K H v k → NkV K H' v k
  | _, _, .num i => .num i
  | _, _, .txt x => .txt x
  | _, _, .row place each => .row (t _ _ _ place) (NkVs.tq t each)
theorem NkVs.tq {K : PySem.W.Frag} {H H' : Hp} (t : Tq H H') : ∀ {xs : List V} {ks : List NestedKey}, NkVs K H xs ks → NkVs K H' xs ks
  | _, _, .nil => .nil
  | _, _, .cons one rest => .cons (one.tq t) (rest.tq t)
end
/-! the table: each key, where its tuple stands, and what is kept under it -/
abbrev NkT := List (NestedKey × Addr × V)
def valN (T : NkT) (k : NestedKey) : Option V := (T.find? fun p => decide (p.1 = k)).map (·.2.2)
def setN (T : NkT) (k : NestedKey) (b : Addr) (v : V) : NkT := if (valN T k).isSome = true then T.map (fun p => if p.1 = k then (p.1, p.2.1, v) else p) else T ++ [(k, b, v)]
def nkEntry (w : World) (q : NestedKey × Addr × Value) : DictEntry := ⟨q.1.hash w, .ref q.2.1, q.2.2⟩
def NkRel (p : NestedKey × Addr × V) (q : NestedKey × Addr × Value) : Prop := p.1 = q.1 ∧ p.2.1 = q.2.1 ∧ RelV p.2.2 q.2.2
/-- its one object -/
def nkRaw (w : World) (a : Addr) (T : NkT) (h : Heap) : Prop :=
  T.length ≤ sizeLine ∧ (a == sysModules) = false ∧ ∃ qs, Paired NkRel T qs ∧ (qs.map (·.1)).Nodup ∧ ∃ o es ep, h.get? a = some o ∧ o.ExactDict ∧ o.data = .dict es ep ∧ es.toList = qs.map (nkEntry w)
def nkO (w : World) (a : Addr) (T : NkT) : HO := .ext (nkRaw w a T)
theorem nk_obj {P : Program} {w : World} {H : Hp} {h : Heap} {a : Addr} {T : NkT} (r : nkRaw w a T h) : ObjOk P w H h a (nkO w a T) := by
  refine ⟨r, ?_, ?_⟩
  · obtain ⟨_, _, _, _, _, o, _, _, e, _⟩ := r
    exact ⟨o, e⟩
  · rintro h1 h2 ⟨fits, apart, qs, rel, nd, o, es, ep, e, more⟩ stays
    exact ⟨fits, apart, qs, rel, nd, o, es, ep, stays o e, more⟩
theorem nk_at {T : NkT} {qs : List (NestedKey × Addr × Value)} (r : Paired NkRel T qs) (k : NestedKey) : RelO (valN T k) ((atKey qs k).map (·.2)) := by
  induction r with
  | nil => trivial
  | @cons p q ps rs one rest ih =>
    obtain ⟨e1, _, e3⟩ := one
    unfold valN atKey
    rw [List.find?_cons, List.find?_cons, ← e1]
    by_cases e : p.1 = k
    · rw [decide_eq_true e]
      exact e3
    · rw [decide_eq_false e]
      exact ih
theorem nk_len {T : NkT} {qs : List (NestedKey × Addr × Value)} (r : Paired NkRel T qs) : T.length = qs.length := Paired.length r
theorem setN_len (T : NkT) (k : NestedKey) (b : Addr) (v : V) : (setN T k b v).length ≤ T.length + 1 := by
  unfold setN
  split
  · rw [List.length_map]
    exact Nat.le_succ _
  · rw [List.length_append]
    exact Nat.le_refl _
theorem nk_set {T : NkT} {qs : List (NestedKey × Addr × Value)} (r : Paired NkRel T qs) (k : NestedKey) (b : Addr) {v : V} {val : Value} (rv : RelV v val) : Paired NkRel (setN T k b v) (storedH qs k b val) := by
  have there : (valN T k).isSome = (atKey qs k).isSome := by
    rw [(nk_at r k).isSome_eq, Option.isSome_map]
  unfold setN storedH
  rw [there]
  cases (atKey qs k).isSome with
  | false => exact Paired.snoc r ⟨rfl, rfl, rv⟩
  | true =>
    show Paired NkRel (T.map _) (qs.map _)
    clear there
    induction r with
    | nil => exact .nil
    | @cons p q ps rs one rest ih =>
      refine .cons ?_ ih
      obtain ⟨e1, e2, e3⟩ := one
      show NkRel (if p.1 = k then (p.1, p.2.1, v) else p) (putAt k val q)
      unfold putAt
      by_cases e : p.1 = k
      · rw [if_pos e, if_pos (e1.symm.trans e)]
        exact ⟨e1, e2, rv⟩
      · rw [if_neg e, if_neg fun z => e (e1.trans z)]
        exact ⟨e1, e2, e3⟩
/-- a key that this law's programs can make -/
def KeyOk (K : PySem.W.Frag) (H : Hp) (b : Addr) (k : NestedKey) : Prop := NkV K H (.ref b) k ∧ k.depth ≤ 8
theorem KeyOk.tq {K : PySem.W.Frag} {H H' : Hp} {b : Addr} {k : NestedKey} (t : Tq H H') (h : KeyOk K H b k) : KeyOk K H' b k := ⟨h.1.tq t, h.2⟩
def KeysOk (K : PySem.W.Frag) (H : Hp) (T : NkT) : Prop := ∀ p ∈ T, KeyOk K H p.2.1 p.1
theorem KeysOk.tq {K : PySem.W.Frag} {H H' : Hp} {T : NkT} (t : Tq H H') (h : KeysOk K H T) : KeysOk K H' T := fun p m => (h p m).tq t
theorem KeysOk.set {K : PySem.W.Frag} {H : Hp} {T : NkT} {k : NestedKey} {b : Addr} {v : V} (h : KeysOk K H T) (hb : KeyOk K H b k) : KeysOk K H (setN T k b v) := fun p m => by
  unfold setN at m
  split at m
  · obtain ⟨q, hq, rfl⟩ := List.mem_map.mp m
    have old := h q hq
    split
    · exact old
    · exact old
  · rcases List.mem_append.mp m with m | m
    · exact h p m
    · cases List.mem_singleton.mp m
      exact hb
section
variable {X : Cx} {pins : List (Addr × Obj)} {σ : L2.St} {H : Hp} {s : Shared} {a b : Addr} {T : NkT} {k : NestedKey} {v : V} {val : Value} {A : Around} {E : Value → Shared → Prop}
theorem key_is (I : Inv X pins σ H s) (h : KeyOk X.K H b k) : (nestedKind X.prog X.w).is s.heap k b := ⟨nk_is I.hok I.kIn h.1 rfl, h.2⟩
theorem nk_open (I : Inv X pins σ H s) (e : Rd H a (nkO X.w a T)) (ks : KeysOk X.K H T) : T.length ≤ sizeLine ∧ (a == sysModules) = false ∧ ∃ qs, Paired NkRel T qs ∧ s.heap.DictOfH (nestedKind X.prog X.w) a qs := by
  obtain ⟨⟨fits, apart, qs, rel, nd, o, es, ep, h1, h2, h3, h4⟩, _⟩ := (show ObjOk X.prog X.w H s.heap a (nkO X.w a T) from e.ok I.hok)
  refine ⟨fits, apart, qs, rel, o, es, ep, h1, h2, h3, h4, fun q m => ?_, nd⟩
  obtain ⟨i, hi⟩ := List.mem_iff_getElem?.mp m
  obtain ⟨p, hp⟩ : ∃ p, T[i]? = some p := ⟨T[i]'(by rw [nk_len rel]; exact (List.getElem?_eq_some_iff.mp hi).1), List.getElem?_eq_getElem _⟩
  obtain ⟨q', e1, e2, e3, _⟩ := LiI.paired_get rel hp
  obtain rfl : q' = q := Option.some.inj (e1.symm.trans hi)
  have := key_is I (ks p (List.mem_of_getElem? hp))
  rw [e2, e3] at this
  exact this
/-- deep enough for a key's == -/
def Deep8 (A : Around) : Prop := A.units + 9 < cLine
theorem deep_in {P : Program} {w : World} (h : Deep8 A) : (nestedKind P w).room A.in1 := by
  show A.units + 1 + 8 < cLine
  exact h
/-- what is read at a key -/
def NGet (w : World) (K : PySem.W.Frag) (H : Hp) (a : Addr) (y : V) (r : Option V) : Prop := ∃ T k b, y = .ref b ∧ Rd H a (nkO w a T) ∧ KeysOk K H T ∧ KeyOk K H b k ∧ r = valN T k
theorem nk_get {Z : Value → Shared → Prop} (deep : Deep8 A) (I : Inv X pins σ H s) {y : V} (g : NGet X.w X.K H a y (some v)) (ry : RelV y val) (go : ∀ x t, Inv X pins σ H t → RelV v x → Z x t) :
    wpAny (model X.prog X.w) A (getItem (.ref a) val) Z E s := by
  obtain ⟨T, k, b, rfl, e, ks, kb, here⟩ := g
  obtain rfl : val = Value.ref b := ry
  obtain ⟨_, _, qs, rel, dict⟩ := nk_open I e ks
  have found := nk_at rel k
  rw [← here] at found
  obtain ⟨x, hx, rx⟩ := RelO.some_of found
  obtain ⟨p, hp, rfl⟩ := Option.map_eq_some_iff.mp hx
  exact wpAny_getItem_heap (deep_in deep) (key_is I kb) dict hp (go _ _ (I.tok _) rx)
theorem nk_in {Z : Value → Shared → Prop} (deep : Deep8 A) (I : Inv X pins σ H s) {y : V} {r : Option V} (g : NGet X.w X.K H a y r) (ry : RelV y val) (go : ∀ t, Inv X pins σ H t → Z (.bool r.isSome) t) :
    wpAny (model X.prog X.w) A (compareOp .In val (.ref a)) Z E s := by
  obtain ⟨T, k, b, rfl, e, ks, kb, here⟩ := g
  obtain rfl : val = Value.ref b := ry
  obtain ⟨_, apart, qs, rel, dict⟩ := nk_open I e ks
  refine in_keyed (deep_in deep) (key_is I kb) apart ⟨qs, dict, rfl⟩ ?_
  rw [valueAt_pairsH, Option.isSome_map, ← Option.isSome_map (f := Prod.snd), ← (nk_at rel k).isSome_eq, ← here]
  exact go _ (I.tok _)
theorem nk_notin {Z : Value → Shared → Prop} (deep : Deep8 A) (I : Inv X pins σ H s) {y : V} {r : Option V} (g : NGet X.w X.K H a y r) (ry : RelV y val) (go : ∀ t, Inv X pins σ H t → Z (.bool (!r.isSome)) t) :
    wpAny (model X.prog X.w) A (compareOp .NotIn val (.ref a)) Z E s := by
  obtain ⟨T, k, b, rfl, e, ks, kb, here⟩ := g
  obtain rfl : val = Value.ref b := ry
  obtain ⟨_, apart, qs, rel, dict⟩ := nk_open I e ks
  refine notIn_keyed (deep_in deep) (key_is I kb) apart ⟨qs, dict, rfl⟩ ?_
  rw [valueAt_pairsH, Option.isSome_map, ← Option.isSome_map (f := Prod.snd), ← (nk_at rel k).isSome_eq, ← here]
  exact go _ (I.tok _)
theorem nk_getOr {Z : Value → Shared → Prop} (deep : Deep8 A) (I : Inv X pins σ H s) {y d : V} {r : Option V} {ud : Value} (g : NGet X.w X.K H a y r) (ry : RelV y val) (rd : RelV d ud) (go : ∀ x t, Inv X pins σ H t → RelV (r.getD d) x → Z x t) :
    wpAny (model X.prog X.w) A (call (.builtin "dict.get") [.ref a, val, ud]) Z E s := by
  obtain ⟨T, k, b, rfl, e, ks, kb, here⟩ := g
  obtain rfl : val = Value.ref b := ry
  obtain ⟨_, apart, qs, rel, dict⟩ := nk_open I e ks
  refine getOr_keyed (deep_in deep) (key_is I kb) apart ⟨qs, dict, rfl⟩ ?_
  rw [valueAt_pairsH]
  refine go _ _ (I.tok _) ?_
  rw [here]
  exact (nk_at rel k).getD rd
/-- its object is written anew -/
theorem nk_write {T' : NkT} {h' : Heap} {tk : Nat} (I : Inv X pins σ H s) (e : H a = some (nkO X.w a T)) (only : Heap.SameBut a s.heap h') (new : nkRaw X.w a T' h') : Inv X pins σ (upd H a (nkO X.w a T')) { s with heap := h', toks := tk } := by
  refine d_write I (by rw [e]; exact True.intro) only ?_ (nk_obj new)
  obtain ⟨_, _, _, _, _, o, _, _, at_, _⟩ := new
  exact ⟨o, at_⟩
theorem nk_stored {qs : List (NestedKey × Addr × Value)} {h' : Heap} (fits : T.length < sizeLine) (apart : (a == sysModules) = false) (rel : Paired NkRel T qs) (rv : RelV v val) (dict : h'.DictOfH (nestedKind X.prog X.w) a (storedH qs k b val)) : nkRaw X.w a (setN T k b v) h' := by
  obtain ⟨o, es, ep, h1, h2, h3, h4, _, nd⟩ := dict
  have := setN_len T k b v
  exact ⟨by omega, apart, _, nk_set rel k b rv, nd, o, es, ep, h1, h2, h3, h4⟩
theorem nk_put {Z : Unit → Shared → Prop} {y : V} {uy : Value} (deep : Deep8 A) (I : Inv X pins σ H s) (e : H a = some (nkO X.w a T)) (ks : KeysOk X.K H T) (kb : KeyOk X.K H b k) (few : T.length < sizeLine) (ey : y = .ref b) (ry : RelV y uy) (rv : RelV v val)
    (go : ∀ t, Inv X pins σ (upd H a (nkO X.w a (setN T k b v))) t → Z () t) : wpAny (model X.prog X.w) A (setItem (.ref a) uy val) Z E s := by
  subst ey
  obtain rfl : uy = Value.ref b := ry
  obtain ⟨_, apart, qs, rel, dict⟩ := nk_open I (.inl e) ks
  have room : qs.length ≤ sizeLine := by
    rw [← nk_len rel]
    exact Nat.le_of_lt few
  exact wpAny_setItem_heap (hsz := room) (deep_in deep) (key_is I kb) dict fun h' new only => go _ (nk_write I e only (nk_stored few apart rel rv new))
/-- d.setdefault(k, x) -/
theorem nk_default {Z : Value → Shared → Prop} {y : V} {uy : Value} (deep : Deep8 A) (I : Inv X pins σ H s) (e : H a = some (nkO X.w a T)) (ks : KeysOk X.K H T) (kb : KeyOk X.K H b k) (few : T.length < sizeLine) (ey : y = .ref b) (ry : RelV y uy) (rv : RelV v val)
    (old : ∀ z x t, valN T k = some z → Inv X pins σ H t → RelV z x → Z x t) (new : ∀ t, valN T k = none → Inv X pins σ (upd H a (nkO X.w a (setN T k b v))) t → Z val t) : wpAny (model X.prog X.w) A (call (.builtin "dict.setdefault") [.ref a, uy, val]) Z E s := by
  subst ey
  obtain rfl : uy = Value.ref b := ry
  obtain ⟨_, apart, qs, rel, dict⟩ := nk_open I (.inl e) ks
  have room : qs.length ≤ sizeLine := by
    rw [← nk_len rel]
    exact Nat.le_of_lt few
  have found := nk_at rel k
  refine call_setdefault_heap (hsz := room) (deep_in deep) (key_is I kb) apart dict (fun p hp => ?_) fun hn h' nd only => ?_
  · rw [hp] at found
    cases ev : valN T k with
    | none =>
      rw [ev] at found
      exact absurd found id
    | some z =>
      rw [ev] at found
      exact old z _ _ ev (I.tok _) found
  · rw [hn] at found
    refine new _ ?_ (nk_write I e only (nk_stored few apart rel rv nd))
    cases ev : valN T k with
    | none => rfl
    | some z =>
      rw [ev] at found
      exact absurd found id
end
end DR
/-! ### what a program does with dicts whose keys are nested: d[k], k in d, d[k] = v, d.get, d.setdefault, truth, walks -/
namespace DR
open PySem PySem.Spec PyProof.Rows L2
theorem deep_of {A : Around} {j : Nat} (hr : Room j A) : Deep8 A := by
  have := hr.units
  unfold Deep8
  omega
def tNGet (w : World) (K : PySem.W.Frag) (td ty : TE) : TE := fun σ H Z => td σ H fun x H1 => ty σ H1 fun y H2 => ∃ a v, x = .ref a ∧ NGet w K H2 a y (some v) ∧ Z v H2
def tNIn (w : World) (K : PySem.W.Frag) (no : Bool) (ty td : TE) : TE := fun σ H Z => ty σ H fun y H1 => td σ H1 fun x H2 => ∃ a r, x = .ref a ∧ NGet w K H2 a y r ∧ Z (.bl (Bool.xor no r.isSome)) H2
def sNPut (w : World) (K : PySem.W.Frag) (td ty tv : TE) : TS := fun D σ H => tv σ H fun v H1 => td σ H1 fun x H2 => ty σ H2 fun y H3 => ∃ a T k b, x = .ref a ∧ y = .ref b ∧ H3 a = some (nkO w a T) ∧ KeysOk K H3 T ∧ KeyOk K H3 b k ∧ T.length < sizeLine ∧
  D.nx σ (upd H3 a (nkO w a (setN T k b v)))
def tNGetOr (w : World) (K : PySem.W.Frag) (td ty tx : TE) : TE := fun σ H Z => td σ H fun x H1 => ∃ a, x = .ref a ∧ (∃ T, Rd H1 a (nkO w a T)) ∧ ty σ H1 fun y H2 => tx σ H2 fun z H3 => ∃ r, NGet w K H3 a y r ∧ Z (r.getD z) H3
def tNDef (w : World) (K : PySem.W.Frag) (td ty tx : TE) : TE := fun σ H Z => td σ H fun x H1 => ∃ a, x = .ref a ∧ (∃ T, Rd H1 a (nkO w a T)) ∧ ty σ H1 fun y H2 => tx σ H2 fun z H3 => ∃ T k b, y = .ref b ∧ H3 a = some (nkO w a T) ∧ KeysOk K H3 T ∧ KeyOk K H3 b k ∧ T.length < sizeLine ∧
  (∀ v, valN T k = some v → Z v H3) ∧ (valN T k = none → Z z (upd H3 a (nkO w a (setN T k b z))))
def tNNew (w : World) : TE := fun _ H Z => ∀ p, H p = none → Z (.ref p) (upd H p (nkO w p []))
section
variable {X : Cx} {pins : List (Addr × Obj)} {σ : L2.St} {H : Hp} {s : Shared} {a : Addr} {T : NkT}
/-- the one object -/
theorem nk_raw (I : Inv X pins σ H s) (e : Rd H a (nkO X.w a T)) : nkRaw X.w a T s.heap := (show ObjOk X.prog X.w H s.heap a (nkO X.w a T) from e.ok I.hok).1
theorem nk_seen (I : Inv X pins σ H s) (e : Rd H a (nkO X.w a T)) : s.TypeIs (.ref a) "dict" ∧ (a == sysModules) = false ∧ ∀ b, Value.ref a = .ref b → ∃ o, s.heap.get? b = some o ∧ o.dict = none := by
  obtain ⟨_, apart, _, _, _, o, es, ep, h1, h2, _⟩ := nk_raw I e
  refine ⟨⟨o, h1, h2.1⟩, apart, fun b q => ?_⟩
  cases q
  exact ⟨o, h1, h2.2.1⟩
theorem nk_entries (I : Inv X pins σ H s) (e : Rd H a (nkO X.w a T)) : ∃ o es ep, s.heap.get? a = some o ∧ o.ExactDict ∧ o.data = .dict es ep ∧ es.size = T.length ∧ ∀ (i : Nat) (p : NestedKey × Addr × V), T[i]? = some p → ∃ n : DictEntry, es[i]? = some n ∧ n.key = .ref p.2.1 ∧ RelV p.2.2 n.val := by
  obtain ⟨_, _, qs, rel, _, o, es, ep, h1, h2, h3, h4⟩ := nk_raw I e
  refine ⟨o, es, ep, h1, h2, h3, ?_, fun i p hp => ?_⟩
  · rw [← Array.length_toList, h4, List.length_map, nk_len rel]
  · obtain ⟨q, hq, e1, e2, e3⟩ := LiI.paired_get rel hp
    refine ⟨nkEntry X.w q, ?_, ?_, e3⟩
    · rw [← Array.getElem?_toList, h4, List.getElem?_map, hq]
      rfl
    · show Value.ref q.2.1 = _
      rw [e2]
end
section
variable {X : Cx} {o i e f value : Expr} {pos pos' apos cpos : Pos} {td ty tv tx : TE}
theorem pe_nnew : PE X (.Dict [] [] pos) (tNNew X.w) := by
  refine ⟨fun pins s σ H Z I h => wpAny_Dict_empty ⟨.ref s.heap.objs.size, _, ?_, rfl, h _ (I.hok.fresh (Nat.le_refl _))⟩⟩
  have apart : (s.heap.objs.size == sysModules) = false := beq_eq_false_iff_ne.mpr (Ne.symm (Nat.ne_of_lt I.big))
  exact I.laid (t' := s.toks) (fun _ _ q => Heap.get?_push_of_some _ q) (Nat.le_refl _) (nk_obj ⟨Nat.zero_le _, apart, [], .nil, List.nodup_nil, _, #[], 0, Heap.get?_push_size _ rfl, ⟨rfl, rfl, rfl⟩, rfl, rfl⟩)
theorem pe_nget (deep : Deep8 X.A) (ho : PE X o td) (hi : PE X i ty) (hs : NoSl i) : PE X (.Subscript o i pos) (tNGet X.w X.K td ty) := by
  refine ⟨fun pins s σ H Z I h => ?_⟩
  refine subD_of PySem.F.slot_dict_getitem.lookup hs (thn (ho.run pins s σ H _ I h) ?_)
  rintro ud s1 ⟨x, H1, I1, rx, h1⟩
  refine thn (hi.run pins s1 σ H1 _ I1 h1) ?_
  rintro uy s2 ⟨y, H2, I2, ry, a, v, rfl, g, go⟩
  obtain rfl : ud = Value.ref a := rx
  refine ⟨?_, nk_get deep I2 g ry fun r t J rr => ⟨v, H2, J, rr, go⟩⟩
  obtain ⟨T, _, _, _, at_, _⟩ := g
  exact (nk_seen I2 at_).1
theorem pc_nin (deep : Deep8 X.A) (hi : PE X i ty) (ho : PE X o td) : PC X .In i o (tNIn X.w X.K false ty td) := by
  refine ⟨fun pins s σ H Z I h => thn (hi.run pins s σ H _ I h) ?_⟩
  rintro uy s1 ⟨y, H1, I1, ry, h1⟩
  refine thn (ho.run pins s1 σ H1 _ I1 h1) ?_
  rintro ud s2 ⟨x, H2, I2, rx, a, r, rfl, g, go⟩
  obtain rfl : ud = Value.ref a := rx
  exact nk_in deep I2 g ry fun t J => ⟨.bl r.isSome, H2, J, rfl, by rw [Bool.false_xor] at go; exact go⟩
theorem pc_nnotin (deep : Deep8 X.A) (hi : PE X i ty) (ho : PE X o td) : PC X .NotIn i o (tNIn X.w X.K true ty td) := by
  refine ⟨fun pins s σ H Z I h => thn (hi.run pins s σ H _ I h) ?_⟩
  rintro uy s1 ⟨y, H1, I1, ry, h1⟩
  refine thn (ho.run pins s1 σ H1 _ I1 h1) ?_
  rintro ud s2 ⟨x, H2, I2, rx, a, r, rfl, g, go⟩
  obtain rfl : ud = Value.ref a := rx
  exact nk_notin deep I2 g ry fun t J => ⟨.bl (!r.isSome), H2, J, rfl, by rw [Bool.true_xor] at go; exact go⟩
theorem ps_nput (deep : Deep8 X.A) (ho : PE X o td) (hi : PE X i ty) (hv : PE X value tv) (plain : swapsWith value (some (.Subscript o i pos')) pos.line X.env = pure false) : PS X (.Assign [.Subscript o i pos'] value pos) (sNPut X.w X.K td ty tv) := by
  refine ⟨fun pins s σ H D I h => wpAny_Assign_Subscript (thn (hv.run pins s σ H _ I h) ?_) plain⟩
  rintro uv s1 ⟨v, H1, I1, rv, h1⟩
  refine thn (ho.run pins s1 σ H1 _ I1 h1) ?_
  rintro ud s2 ⟨x, H2, I2, rx, h2⟩
  refine thn (hi.run pins s2 σ H2 _ I2 h2) ?_
  rintro uy s3 ⟨y, H3, I3, ry, a, T, k, b, rfl, ey, at_, ks, kb, few, go⟩
  obtain rfl : ud = Value.ref a := rx
  exact nk_put deep I3 at_ ks kb few ey ry rv fun t J => ⟨σ, _, J, go⟩
theorem pe_ngetor (deep : Deep8 X.A) (ho : PE X o td) (he : PE X e ty) (hf : PE X f tx) (m : M2 X o "get" apos e f cpos) : PE X (.Call (.Attribute o "get" apos) [e, f] [] cpos) (tNGetOr X.w X.K td ty tx) := by
  refine ⟨fun pins s σ H Z I h => wpAny_Call_method m.base m.few m.line PySem.F.plainAttrs_dict PySem.F.slot_dict_get PySem.F.type_dict_get (thn (ho.run pins s σ H _ I h) ?_)⟩
  rintro ud s1 ⟨x, H1, I1, rx, a, rfl, ⟨T, at_⟩, h1⟩
  obtain rfl : ud = Value.ref a := rx
  obtain ⟨t1, _, t3⟩ := nk_seen I1 at_
  refine ⟨t1, t3, ?_⟩
  rw [m.trees]
  refine Calls.callWith_builtin rfl (Calls.evalArgs_plain (Calls.spliced_cons (thn (he.run pins s1 σ H1 _ I1 h1) ?_)))
  rintro uy s2 ⟨y, H2, I2, ry, h2⟩
  refine Calls.spliced_cons (thn (hf.run pins s2 σ H2 _ I2 h2) ?_)
  rintro uz s3 ⟨z, H3, I3, rz, r, g, go⟩
  exact Calls.spliced_nil (nk_getOr deep I3 g ry rz fun v t J rv => ⟨_, H3, J, rv, go⟩)
theorem pe_ndef (deep : Deep8 X.A) (ho : PE X o td) (he : PE X e ty) (hf : PE X f tx) (m : M2 X o "setdefault" apos e f cpos) : PE X (.Call (.Attribute o "setdefault" apos) [e, f] [] cpos) (tNDef X.w X.K td ty tx) := by
  refine ⟨fun pins s σ H Z I h => wpAny_Call_method m.base m.few m.line PySem.F.plainAttrs_dict PySem.F.slot_dict_setdefault PySem.F.type_dict_setdefault (thn (ho.run pins s σ H _ I h) ?_)⟩
  rintro ud s1 ⟨x, H1, I1, rx, a, rfl, ⟨T0, at0⟩, h1⟩
  obtain rfl : ud = Value.ref a := rx
  obtain ⟨t1, _, t3⟩ := nk_seen I1 at0
  refine ⟨t1, t3, ?_⟩
  rw [m.trees]
  refine Calls.callWith_builtin rfl (Calls.evalArgs_plain (Calls.spliced_cons (thn (he.run pins s1 σ H1 _ I1 h1) ?_)))
  rintro uy s2 ⟨y, H2, I2, ry, h2⟩
  refine Calls.spliced_cons (thn (hf.run pins s2 σ H2 _ I2 h2) ?_)
  rintro uz s3 ⟨z, H3, I3, rz, T, k, b, ey, at_, ks, kb, few, old, new⟩
  exact Calls.spliced_nil (nk_default deep I3 at_ ks kb few ey ry rz (fun v r t there J rv => ⟨v, H3, J, rv, old v there⟩) fun t gone J => ⟨z, _, J, rz, new gone⟩)
end
section
variable {prog : Program} {w : World} {A : Around} {E : Value → Shared → Prop} {s : Shared} {d : Addr} {kvs : List (NestedKey × Value)}
/-- such a dict is true where it holds something -/
theorem keyed_truth {Z : Bool → Shared → Prop} (apart : (d == sysModules) = false) (hm : s.heap.DictKeyed (nestedKind prog w) d kvs) (fits : kvs.length ≤ sizeLine) (go : ∀ t, Z (!kvs.isEmpty) { s with toks := t }) : wpAny (model prog w) A (truthy (.ref d)) Z E s := by
  rw [sizeLine_eq] at fits
  have typ := hm.typeIs
  have sign : ((kvs.length : Int) != 0) = !kvs.isEmpty := by
    cases kvs with
    | nil => rfl
    | cons _ _ =>
      rw [List.isEmpty_cons, bne_iff_ne.mpr]
      · rfl
      · rw [List.length_cons]
        omega
  have counted : ∀ {B : Around}, wpAny (model prog w) B (Builtin.«len» ⟨[.ref d], []⟩) (fun r t => ∃ v, r = .done (.ret v) ∧ ∃ n, v = .int kvs.length n ∧ Z (!kvs.isEmpty) t) E s := fun {B} => by
    unfold Builtin.«len»
    refine wpAny_bind (m := oneArg "len" _) (wpAny_pure (wpAny_bind (m := callSpecial? (.ref d) (Str.ofString "__len__")) (wpAny_callSpecial?_slot (name := Str.ofString "__len__") typ F.slot_dict_len (len_keyed apart hm ?_))))
    refine wpAny_bind (wpAny_holding (wpAny_pure (wpAny_bind (wpAny_letGo ?_))))
    have low : ¬ ((kvs.length : Nat) : Int) < 0 := by omega
    have high : ¬ ((kvs.length : Nat) : Int) ≥ 2 ^ 63 := by omega
    simp only [if_neg low, if_neg high]
    exact wpAny_bind (wpAny_mkInt (wpAny_pure ⟨_, rfl, _, rfl, go _⟩))
  have told : wpAny (model prog w) A (runValue (.builtin "len" ⟨[.ref d], []⟩)) (fun r t => ∃ n, r = .int kvs.length n ∧ Z ((kvs.length : Int) != 0) t) E s := wpAny_runValue (codeAny_builtin entry_len (wpAny_mono counted (fun r t ⟨v, e, n, h, z⟩ => by
    subst e
    exact ⟨n, h, by rw [sign]; exact z⟩) fun _ _ e => e))
  unfold truthy
  exact wpAny_bind (wpAny_callSpecial?_none typ noBool_dict (wpAny_bind (wpAny_specialOf typ F.slot_dict_len.lookup (wpAny_bind (wpAny_mono told (fun r t ⟨n, e, z⟩ => e ▸ wpAny_pure z) fun _ _ e => e)))))
end
theorem tru_nk {X : Cx} : TruR X (fun x H Z => ∃ a T, x = .ref a ∧ Rd H a (nkO X.w a T) ∧ KeysOk X.K H T ∧ Z (!T.isEmpty) H) := by
  rintro pins s σ H _ uv Z I rx ⟨a, T, rfl, at_, ks, go⟩
  obtain rfl : uv = Value.ref a := rx
  obtain ⟨fits, apart, qs, rel, dict⟩ := nk_open I at_ ks
  refine keyed_truth apart ⟨qs, dict, rfl⟩ (by rw [pairsH_length, ← nk_len rel]; exact fits) fun t => ⟨H, I.tok t, ?_⟩
  have same : (pairsH qs).isEmpty = T.isEmpty := by cases rel <;> rfl
  rw [same]
  exact go
end DR
/-! ### for k in a dict whose keys are nested -/
namespace DR
open PySem PySem.Spec PyProof.Rows L2
/-- the walk over the keys: at each turn the key's own tuple -/
def itN (w : World) (d : Addr) (o : Obj) (T : NkT) : It where
  go := fun i H => H d = some (.frz o (nkO w d T)) ∧ i < T.length
  yld := fun i H x H' => H' = H ∧ ∃ p, T[i]? = some p ∧ x = .ref p.2.1
  stop := fun i H => H d = some (.frz o (nkO w d T)) ∧ T.length ≤ i
section
variable {X : Cx} {pins : List (Addr × Obj)} {σ : L2.St} {H : Hp} {s : Shared} {d : Addr} {T : NkT} {o : Obj}
theorem nk_locked (I : Inv X pins σ H s) (e : H d = some (.frz o (nkO X.w d T))) : (d == sysModules) = false ∧ s.heap.get? d = some o ∧ ∃ es ep, s.heap.DictRaw d es ep ∧ o.ExactDict ∧ o.data = .dict es ep ∧ es.size = T.length ∧ ∀ (i : Nat) (p : NestedKey × Addr × V), T[i]? = some p → ∃ n : DictEntry, es[i]? = some n ∧ n.key = .ref p.2.1 ∧ RelV p.2.2 n.val := by
  have same : s.heap.get? d = some o := (I.hok d _ e).1
  obtain ⟨_, apart, _⟩ := nk_seen I (.inr ⟨o, e⟩)
  obtain ⟨o', es, ep, h1, h2, h3, h4, h5⟩ := nk_entries I (.inr ⟨o, e⟩)
  obtain rfl : o' = o := Option.some.inj (h1.symm.trans same)
  exact ⟨apart, same, es, ep, ⟨o', h1, h2, h3⟩, h2, h3, h4, h5⟩
end
theorem turn_nk {P : Program} {w : World} {K : PySem.W.Frag} {tg : Expr} {d : Addr} {o : Obj} {T : NkT} {es : Array DictEntry} {ep : Nat} (it : Addr) (data : o.data = .dict es ep) : Turn P w K tg (itN w d o T) [it] it (fun i h => h.IsKeyIter it d i T.length ep) where
  mem := List.mem_singleton.mpr rfl
  obj := by
    intro i h st b m
    cases List.mem_singleton.mp m
    obtain ⟨oi, e, _, fields⟩ := st
    exact ⟨oi, e, fun v z => by rw [fields] at z; cases z⟩
  keep := fun i h h' st k => st.at fun oi e => k it (List.mem_singleton.mpr rfl) oi e
  item := by
    intro X hP hw hK calm i pins s σ H E I free st going
    subst hP hw hK
    obtain ⟨locked, less⟩ := going
    obtain ⟨f0, f1, _, f3, f4, f5⟩ := free it (List.mem_singleton.mpr rfl)
    obtain ⟨_, _, es', ep', raw, _, data', size, ent⟩ := nk_locked I locked
    obtain ⟨rfl, rfl⟩ := dict_ep data data'
    have here : T[i]? = some T[i] := List.getElem?_eq_getElem less
    obtain ⟨n, hn, key, _⟩ := ent i _ here
    have inn : i < es'.size := size ▸ less
    have st0 : s.heap.IsKeyIter it d i es'.size ep' := size.symm ▸ st
    refine wpAny_pyNext_keys_item_raw st0 raw inn fun h' st' only => ?_
    have J : Inv X pins σ H { s with heap := h' } := I.turned (t' := s.toks) (fun b o nb e => (only.2 b nb).trans e) f0 f1 f3 f4 f5
    have st2 : h'.IsKeyIter it d (i + 1) T.length ep' := size ▸ st'
    obtain ⟨oi, e, cls, fields⟩ := id st'
    have this : es'[i].key = .ref T[i].2.1 := by
      rw [Array.getElem?_eq_getElem inn] at hn
      rw [Option.some.inj hn]
      exact key
    exact ⟨_, rfl, go_of (s := { s with heap := h' }) e cls fields (by decide) ⟨.ref T[i].2.1, H, J, this, ⟨rfl, _, here, rfl⟩, st2, fun b m => (free b m).1⟩⟩
  done := by
    intro X hP hw hK calm i pins s σ H E I free st over
    subst hP hw hK
    obtain ⟨locked, all⟩ := over
    obtain ⟨f0, f1, _, f3, f4, f5⟩ := free it (List.mem_singleton.mpr rfl)
    obtain ⟨_, _, es', ep', raw, _, data', size, ent⟩ := nk_locked I locked
    obtain ⟨rfl, rfl⟩ := dict_ep data data'
    exact wpAny_pyNext_keys_end_raw (I.ok.hd calm) (size.symm ▸ st : s.heap.IsKeyIter it d i es'.size ep') raw (by omega) fun h' but => ⟨rfl, I.turned (t' := s.toks) (fun b o nb e => but b o nb e) f0 f1 f3 f4 f5⟩
  self := fun A i s Z E st h => wpAny_pyIter_keyiter st h
/-- for k in d: the dict is locked meanwhile -/
def iNKeys (w : World) (td : TE) : TI := fun σ H R => td σ H fun x H1 => ∃ d o T, x = .ref d ∧ H1 d = some (.frz o (nkO w d T)) ∧ R (itN w d o T) H1
theorem pi_nkeys {X : Cx} {tg e : Expr} {td : TE} (he : PE X e td) : PI X tg e (iNKeys X.w td) := by
  refine ⟨fun pins s σ H R I h => thn (he.run pins s σ H _ I h) ?_⟩
  rintro ud s1 ⟨x, H1, I1, rx, d, o, T, rfl, locked, go⟩
  obtain rfl : ud = Value.ref d := rx
  obtain ⟨apart, same, es, ep, raw, exact', data, size, _⟩ := nk_locked I1 locked
  refine iter_keys apart same exact' data (pi_one (tk := s1.toks) I1 _ (turn_nk _ data) ⟨_, Heap.get?_push_size _ rfl, rfl, ?_⟩ go)
  rw [size] <;> rfl
theorem walk_nk {w : World} {d : Addr} {o : Obj} {T : NkT} : Walk (itN w d o T) T.length (fun H => H d = some (.frz o (nkO w d T))) (fun i H x H' => H' = H ∧ ∃ p, T[i]? = some p ∧ x = .ref p.2.1) :=
  ⟨fun _ _ less q => ⟨q, less⟩, fun _ q => ⟨q, Nat.le_refl _⟩, fun _ _ _ _ _ _ y => y⟩
/-- what is let go, or taken, moves no tuple -/
theorem tq_ext {H : Hp} {d : Addr} {φ : Heap → Prop} {u : HO} (h : H d = some (.ext φ)) : Tq H (upd H d u) := fun K a xs q => by
  rcases q with (q | ⟨o, q⟩) | q
  · exact .inl (.inl (by rw [upd_ne (ne_of q h fun z => nomatch z)]; exact q))
  · exact .inl (.inr ⟨o, by rw [upd_ne (ne_of q h fun z => nomatch z)]; exact q⟩)
  · exact .inr q
theorem tq_frz {H : Hp} {d : Addr} {o : Obj} {φ : Heap → Prop} {u : HO} (h : H d = some (.frz o (.ext φ))) : Tq H (upd H d u) := fun K a xs q => by
  rcases q with (q | ⟨o', q⟩) | q
  · exact .inl (.inl (by rw [upd_ne (ne_of q h fun z => nomatch z)]; exact q))
  · exact .inl (.inr ⟨o', by rw [upd_ne (ne_of q h fun z => nomatch z)]; exact q⟩)
  · exact .inr q
end DR
/-! ### groups as a dict from rounds to dicts -/
namespace DR
open PySem PySem.Spec PyProof.Rows L2
def nkPr (t : Int × Int) : NestedKey := .tup [.num t.1, .num t.2]
def nkPol (f : Pol) : NestedKey := .tup (f.map nkPr)
theorem nkPr_inj {t u : Int × Int} (h : nkPr t = nkPr u) : t = u := by
  obtain ⟨a, b⟩ := t
  obtain ⟨c, d⟩ := u
  cases h
  rfl
theorem nkPrs_inj : ∀ {f g : Pol}, f.map nkPr = g.map nkPr → f = g
  | [], [], _ => rfl
  | [], _ :: _, h => by cases h
  | _ :: _, [], h => by cases h
  | t :: f, u :: g, h => by
    rw [List.map_cons, List.map_cons] at h
    injection h with h1 h2
    rw [nkPr_inj h1, nkPrs_inj h2]
theorem nkPol_inj {f g : Pol} (h : nkPol f = nkPol g) : f = g := by
  unfold nkPol at h
  injection h with h
  exact nkPrs_inj h
theorem nkPol_depth (f : Pol) : (nkPol f).depth ≤ 2 := by
  have : ∀ f : Pol, NestedKey.depthAll (f.map nkPr) ≤ 1 := fun f => by
    induction f with
    | nil => exact Nat.zero_le _
    | cons t f ih =>
      show max (nkPr t).depth (NestedKey.depthAll (f.map nkPr)) ≤ 1
      have : (nkPr t).depth = 1 := rfl
      omega
  show NestedKey.depthAll (f.map nkPr) + 1 ≤ 2
  have := this f
  omega
theorem prs_nk {K : PySem.W.Frag} {H : Hp} : ∀ {xs : List V} {f : Pol}, Prs K H xs f → NkVs K H xs (f.map nkPr)
  | _, _, .nil => .nil
  | _, _, .cons one rest => by
    obtain ⟨a, rfl, ha⟩ := one
    exact .cons (.row ha (.cons (.num _) (.cons (.num _) .nil))) (prs_nk rest)
theorem TPol.key {K : PySem.W.Frag} {H : Hp} {b : Addr} {f : Pol} (h : TPol K H (.ref b) f) : KeyOk K H b (nkPol f) := by
  obtain ⟨a, xs, e, ha, hP⟩ := h
  cases e
  exact ⟨.row ha (prs_nk hP), by have := nkPol_depth f; omega⟩
theorem IsPr.tq {K : PySem.W.Frag} {H H' : Hp} {x : V} {t : Int × Int} (q : Tq H H') (h : IsPr K H x t) : IsPr K H' x t := h.elim fun a z => ⟨a, z.1, q _ _ _ z.2⟩
theorem Prs.tq {K : PySem.W.Frag} {H H' : Hp} (q : Tq H H') : ∀ {xs : List V} {f : Pol}, Prs K H xs f → Prs K H' xs f
  | _, _, .nil => .nil
  | _, _, .cons r s => .cons (r.tq q) (Prs.tq q s)
theorem TPol.tq {K : PySem.W.Frag} {H H' : Hp} {v : V} {f : Pol} (q : Tq H H') (h : TPol K H v f) : TPol K H' v f := by
  obtain ⟨a, xs, rfl, ha, hP⟩ := h
  exact ⟨a, xs, rfl, q _ _ _ ha, Prs.tq q hP⟩
/-- an entry: the rounds' tuple, and a dict of places -/
structure GE (K : PySem.W.Frag) (H0 H : Hp) (p : NestedKey × Addr × V) (g : Pol × Pol) : Prop where
  key : p.1 = nkPol g.1
  rounds : TPol K H (.ref p.2.1) g.1
  sums : ∃ d, p.2.2 = .ref d ∧ H d = some (.dK (kvOf g.2)) ∧ H0 d = none
/-- all entries; no dict stands under two keys -/
structure GT (K : PySem.W.Frag) (H0 H : Hp) (T : NkT) (G : Grp) : Prop where
  each : Paired (GE K H0 H) T G
  apart : (T.map (·.2.2)).Nodup
theorem pairs_app {α β : Type} {R : α → β → Prop} : ∀ {xs ys : List α} {a b : List β}, Paired R xs a → Paired R ys b → Paired R (xs ++ ys) (a ++ b)
  | _, _, _, _, .nil, h => h
  | _, _, _, _, .cons r t, h => .cons r (pairs_app t h)
def noH : Hp := fun _ => none
section
variable {K : PySem.W.Frag} {H0 H H' : Hp} {T : NkT} {G : Grp} {r m : Pol} {b d : Addr}
theorem GT.keys (h : GT K H0 H T G) : KeysOk K H T := fun p mem => by
  obtain ⟨i, hi⟩ := List.mem_iff_getElem?.mp mem
  obtain ⟨g, _, hg⟩ := LiI.paired_get h.each hi
  have := hg.rounds.key
  rw [← hg.key] at this
  exact this
theorem GT.len (h : GT K H0 H T G) : T.length = G.length := Paired.length h.each
theorem GE.same {p : NestedKey × Addr × V} {g : Pol × Pol} (s : Same H H') (h : GE K H0 H p g) : GE K H0 H' p g := by
  obtain ⟨e, t, d, h1, h2, h3⟩ := h
  exact ⟨e, t.tp (Same.tp s), d, h1, s _ _ h2, h3⟩
theorem GT.same (s : Same H H') (h : GT K H0 H T G) : GT K H0 H' T G := ⟨Paired.mapP h.each fun _ _ e => e.same s, h.apart⟩
theorem GT.any (h : GT K H0 H T G) : GT K noH H T G := ⟨Paired.mapP h.each fun _ _ e => ⟨e.key, e.rounds, e.sums.elim fun d z => ⟨d, z.1, z.2.1, rfl⟩⟩, h.apart⟩
/-- what is no dict of ints changes -/
theorem GT.other {a : Addr} {o u : HO} (ha : H a = some o) (n : ∀ kvs, o ≠ .dK kvs) (q : Tq H (upd H a u)) (h : GT K H0 H T G) : GT K H0 (upd H a u) T G := by
  refine ⟨Paired.mapP h.each fun p g e => ?_, h.apart⟩
  obtain ⟨e1, e2, d, h1, h2, h3⟩ := e
  exact ⟨e1, e2.tq q, d, h1, by rw [upd_ne (ne_of h2 ha fun z => n _ z.symm)]; exact h2, h3⟩
theorem gt_at : ∀ {T : NkT} {G : Grp}, Paired (GE K H0 H) T G → (gAt G r = none ∧ valN T (nkPol r) = none) ∨ ∃ m d, gAt G r = some m ∧ valN T (nkPol r) = some (.ref d) ∧ H d = some (.dK (kvOf m)) ∧ H0 d = none
  | _, _, .nil => .inl ⟨rfl, rfl⟩
  | _, _, .cons (a := p) (b := g) (l₁ := T) one rest => by
    obtain ⟨e, _, d, h1, h2, h3⟩ := one
    rw [gAt_cons]
    have key : valN (p :: T) (nkPol r) = if g.1 = r then some p.2.2 else valN T (nkPol r) := by
      unfold valN
      rw [List.find?_cons]
      by_cases z : g.1 = r
      · rw [if_pos z, decide_eq_true (by rw [e, z])]
        rfl
      · rw [if_neg z, decide_eq_false fun y => z (nkPol_inj (e.symm.trans y))]
    rw [key]
    by_cases z : g.1 = r
    · rw [if_pos z, if_pos z, h1]
      exact .inr ⟨_, d, rfl, rfl, h2, h3⟩
    · rw [if_neg z, if_neg z]
      exact gt_at rest
theorem valN_mem {T : NkT} {k : NestedKey} {v : V} (h : valN T k = some v) : ∃ p ∈ T, p.1 = k ∧ p.2.2 = v := by
  unfold valN at h
  obtain ⟨p, hp, e⟩ := Option.map_eq_some_iff.mp h
  exact ⟨p, List.mem_of_find?_eq_some hp, of_decide_eq_true (List.find?_some (p := fun (p : NestedKey × Addr × V) => decide (p.1 = k)) hp), e⟩
theorem valN_cons (p : NestedKey × Addr × V) (T : NkT) (k : NestedKey) : valN (p :: T) k = if p.1 = k then some p.2.2 else valN T k := by
  unfold valN
  rw [List.find?_cons]
  by_cases z : p.1 = k
  · rw [if_pos z, decide_eq_true z]
    rfl
  · rw [if_neg z, decide_eq_false z]
theorem ges_off {u : HO} : ∀ {T : NkT} {G : Grp}, Paired (GE K H0 H) T G → (∃ kvs, H d = some (.dK kvs)) → V.ref d ∉ T.map (·.2.2) → Paired (GE K H0 (upd H d u)) T G
  | _, _, .nil, _, _ => .nil
  | _, _, .cons (a := p) one rest, hd, n => by
    obtain ⟨k1, k2, d2, k3, k4, k5⟩ := one
    obtain ⟨kvs, e⟩ := hd
    have n : V.ref d ≠ p.2.2 ∧ V.ref d ∉ _ := ⟨fun z => n (z ▸ List.mem_cons_self), fun z => n (List.mem_cons_of_mem _ z)⟩
    refine .cons ⟨k1, k2.tq (tp_dK e).tq, d2, k3, ?_, k5⟩ (ges_off rest ⟨kvs, e⟩ n.2)
    rw [upd_ne fun y => n.1 (by rw [k3, y])]
    exact k4
theorem map_off {G : Grp} {u : Pol} (n : r ∉ G.map (·.1)) : (G.map fun g => if g.1 = r then (g.1, u) else g) = G := by
  have : ∀ g ∈ G, (if g.1 = r then (g.1, u) else g) = id g := fun g hg => if_neg fun (z : g.1 = r) => n (z ▸ List.mem_map_of_mem hg)
  rw [List.map_congr_left this, List.map_id]
theorem ges_put (u : Pol) : ∀ {T : NkT} {G : Grp}, Paired (GE K H0 H) T G → (T.map (·.2.2)).Nodup → (G.map (·.1)).Nodup → valN T (nkPol r) = some (.ref d) → Paired (GE K H0 (upd H d (.dK (kvOf u)))) T (G.map fun g => if g.1 = r then (g.1, u) else g)
  | _, _, .nil, _, _, _ => .nil
  | _, _, .cons (a := p) (b := g) (l₁ := T) (l₂ := G) one rest, ap, nd, at_ => by
    obtain ⟨k1, k2, d2, k3, k4, k5⟩ := one
    have ap := List.nodup_cons.mp (show (p.2.2 :: T.map (·.2.2)).Nodup from ap)
    have nd := List.nodup_cons.mp (show (g.1 :: G.map (·.1)).Nodup from nd)
    rw [valN_cons] at at_
    rw [List.map_cons]
    by_cases z : g.1 = r
    · rw [if_pos (by rw [k1, z])] at at_
      have e : V.ref d2 = .ref d := k3.symm.trans (Option.some.inj at_)
      cases e
      rw [if_pos z, map_off (by rw [← z]; exact nd.1)]
      exact .cons ⟨k1, k2.tq (tp_dK k4).tq, d, k3, upd_same, k5⟩ (ges_off rest ⟨_, k4⟩ (by rw [← k3]; exact ap.1))
    · rw [if_neg fun y => z (nkPol_inj (k1.symm.trans y))] at at_
      obtain ⟨q, hq, q1, q2⟩ := valN_mem at_
      have ne : d2 ≠ d := fun y => ap.1 (by rw [k3, y, ← q2]; exact List.mem_map_of_mem hq)
      rw [if_neg z]
      refine .cons ⟨k1, ?_, d2, k3, by rw [upd_ne ne]; exact k4, k5⟩ (ges_put u rest ap.2 nd.2 at_)
      rcases gt_at (r := r) rest with ⟨_, y⟩ | ⟨m, d', _, y, e, _⟩
      · rw [at_] at y
        cases y
      · rw [at_] at y
        cases y
        exact k2.tq (tp_dK e).tq
/-- the dict under r changes -/
theorem gt_put (h : GT K H0 H T G) (nd : (G.map (·.1)).Nodup) (at_ : valN T (nkPol r) = some (.ref d)) (u : Pol) : GT K H0 (upd H d (.dK (kvOf u))) T (gSet G r u) := by
  refine ⟨?_, h.apart⟩
  rcases gt_at (r := r) h.each with ⟨_, y⟩ | ⟨m, d', e, _⟩
  · rw [at_] at y
    cases y
  · unfold gSet
    rw [e]
    exact ges_put u h.each h.apart nd at_
/-- a dict under a new key -/
theorem gt_new (h : GT K H0 H T G) (no : valN T (nkPol r) = none) (hb : TPol K H (.ref b) r) (hd : H d = some (.dK (kvOf m))) (new : H0 d = none) (free : V.ref d ∉ T.map (·.2.2)) : GT K H0 H (setN T (nkPol r) b (.ref d)) (gSet G r m) := by
  rcases gt_at (r := r) h.each with ⟨y, _⟩ | ⟨m, d', _, y, _⟩
  · unfold setN gSet
    rw [no, y]
    refine ⟨pairs_app h.each (.cons ⟨rfl, hb, d, rfl, hd, new⟩ .nil), ?_⟩
    show ((T ++ [(nkPol r, b, V.ref d)]).map (·.2.2)).Nodup
    rw [List.map_append]
    exact List.nodup_append.mpr ⟨h.apart, List.nodup_cons.mpr ⟨List.not_mem_nil, List.nodup_nil⟩, fun x hx y hy e => by
      cases List.mem_singleton.mp hy
      exact free ((show x = V.ref d from e) ▸ hx)⟩
  · rw [no] at y
    cases y
end
/-- a dict of groups -/
def GD (w : World) (K : PySem.W.Frag) (H : Hp) (a : Addr) (G : Grp) : Prop := ∃ T, H a = some (nkO w a T) ∧ GT K noH H T G
theorem GD.same {w : World} {K : PySem.W.Frag} {H H' : Hp} {a : Addr} {G : Grp} (s : Same H H') (h : GD w K H a G) : GD w K H' a G := by
  obtain ⟨T, h1, h2⟩ := h
  exact ⟨T, s _ _ h1, h2.same s⟩
/-- what the sizes must keep to -/
structure GOk (N : Nat) (G : Grp) : Prop where
  nd : (G.map (·.1)).Nodup
  sums : ∀ g ∈ G, (g.2.map (·.1)).Nodup
  total : (G.map fun g => g.2.length).sum ≤ N
  many : G.length ≤ N
def sp_without_zeros (w : World) (K : PySem.W.Frag) : Sp := fun vs H Q _ => ∃ (p : Int) (a : Addr) (G : Grp), vs = [.int p, .ref a] ∧ 0 < p ∧ GD w K H a G ∧ GOk 1000000 G ∧ ∀ b H', Same H H' → GD w K H' b (wz p G) → Q (.ref b) H'
end DR
/-! ### list.count of ints, list.remove of a pair -/
namespace DR
open PySem PySem.Spec PyProof.Rows L2 PySem.SeqAt
theorem ints_dp {K : PySem.W.Frag} {H : Hp} : ∀ ns : List Int, DpAll K H (ns.map V.int) (ns.map PyData.int)
  | [] => .nil
  | n :: r => .cons (.int n) (ints_dp r)
theorem ints_flat : ∀ ns : List Int, PyData.plainAll (ns.map PyData.int) = true ∧ PyData.depthAll (ns.map PyData.int) = 0
  | [] => ⟨rfl, rfl⟩
  | n :: r => by
    obtain ⟨a, b⟩ := ints_flat r
    refine ⟨?_, ?_⟩
    · show ((PyData.int n).plain && PyData.plainAll (r.map PyData.int)) = true
      rw [a]
      rfl
    · show max (PyData.int n).depth (PyData.depthAll (r.map PyData.int)) = 0
      rw [b]
      rfl
theorem ints_count (k : Int) : ∀ ns : List Int, ((ns.map PyData.int).countP fun y => PyData.eqv y (.int k)) = ns.count k
  | [] => rfl
  | n :: r => by
    rw [List.map_cons, List.countP_cons, List.count_cons, ints_count k r]
    rfl
theorem prs_plain : ∀ f : Pol, PyData.plainAll (f.map pr) = true
  | [] => rfl
  | t :: r => by
    show ((pr t).plain && PyData.plainAll (r.map pr)) = true
    rw [prs_plain r]
    rfl
theorem eqv_pr (t u : Int × Int) : PyData.eqv (pr t) (pr u) = decide (t = u) := by
  obtain ⟨a, b⟩ := t
  obtain ⟨c, d⟩ := u
  show ((a == c) && ((b == d) && true)) = _
  rw [Bool.and_true]
  by_cases h1 : a = c
  · by_cases h2 : b = d
    · rw [h1, h2, beq_self_eq_true, beq_self_eq_true, decide_eq_true rfl]
      rfl
    · rw [h1, beq_self_eq_true, beq_eq_false_iff_ne.mpr h2, decide_eq_false fun z => h2 (congrArg Prod.snd z)]
      rfl
  · rw [beq_eq_false_iff_ne.mpr h1, decide_eq_false fun z => h1 (congrArg Prod.fst z)]
    rfl
section
variable {X : Cx}
theorem mt_countI (deep : Deep8 X.A) : MtR X "list.count" (fun x xs H Z => ∃ (l : Addr) (ns : List Int) (k : Int), x = .ref l ∧ xs = [.int k] ∧ SqL X.K H l (ns.map V.int) ∧ Z (.int (ns.count k : Nat)) H) := by
  rintro pins s σ H _ _ v us Z I rx rv ⟨l, ns, k, rfl, rfl, hs, go⟩
  obtain rfl : v = Value.ref l := rx
  obtain ⟨uk, rfl, rk⟩ := rv.one
  obtain ⟨its, r, pl, _⟩ := I.list hs
  obtain ⟨as, rs⟩ := Dp.readsAll I _ _ _ (ints_dp ns) r
  obtain ⟨bs, rd⟩ := Dp.reads I (.int k) _ _ (.int k) rk
  obtain ⟨f1, f2⟩ := ints_flat ns
  refine count_list_data pl.isList rs rd f1 rfl ?_ ?_
  · rw [f2]
    have : X.A.units + 9 < cLine := deep
    show X.A.units + 1 + min 0 _ < cLine
    omega
  · rw [ints_count]
    exact ⟨.int (ns.count k : Nat), H, I.tok _, ⟨_, rfl⟩, go⟩
theorem mt_removeP (deep : Deep8 X.A) : MtR X "list.remove" (fun x xs H Z => ∃ (l : Addr) (ys : List V) (f : Pol) (y : V) (t : Int × Int) (j : Nat), x = .ref l ∧ xs = [y] ∧ H l = some (.lst ys) ∧ Prs X.K H ys f ∧ IsPr X.K H y t ∧ f[j]? = some t ∧ (∀ i, i < j → f[i]? ≠ some t) ∧ Z .non (upd H l (.lst (ys.eraseIdx j)))) := by
  rintro pins s σ H _ _ v us Z I rx rv ⟨l, ys, f, y, t, j, rfl, rfl, hl, hP, hy, at_, first, go⟩
  obtain rfl : v = Value.ref l := rx
  obtain ⟨uy, rfl, ry⟩ := rv.one
  obtain ⟨fits, its, n, r, len, obj⟩ := I.lstM hl
  obtain ⟨as, rs⟩ := Dp.readsAll I _ _ _ hP.dp r
  obtain ⟨bs, rd⟩ := Dp.reads I _ _ _ hy.dp ry
  have place : dataPlace (f.map pr) (pr t) = some j := by
    refine List.findIdx?_eq_some_iff_getElem.mpr ⟨?_, ?_, fun i hi => ?_⟩
    · rw [List.length_map]
      exact (List.getElem?_eq_some_iff.mp at_).1
    · rw [List.getElem_map, eqv_pr, (List.getElem?_eq_some_iff.mp at_).2, decide_eq_true rfl]
    · have hj := (List.getElem?_eq_some_iff.mp at_).1
      rw [List.getElem_map, eqv_pr, decide_eq_false fun z => first i hi (by rw [List.getElem?_eq_getElem (by omega), z])]
      exact Bool.false_ne_true
  have room : X.A.units + 9 < cLine := deep
  refine remove_list_data (vs := its.toArray) ⟨_, obj, rfl, _, rfl⟩ rs rd (prs_plain f) rfl ?_ place (by rw [List.size_toArray, ← len]; exact fits) ?_
  · have : (pr t).depth = 1 := rfl
    rw [this]
    omega
  · refine ⟨.non, _, I.lset (its' := its.eraseIdx j) hl obj ?_ (r.eraseIdx j) ?_, rfl, go⟩
    · exact List.eraseIdxIfInBounds_toArray its j
    · exact Nat.le_trans (List.length_eraseIdx_le ..) fits
end
end DR
/-! ### {k: v for k in a dict of ints if ..}, the dict locked -/
namespace DR
open PySem PySem.Spec PyProof.Rows L2
theorem kv_at (m : Pol) (j : Nat) : (kvOf m)[j]? = (m[j]?).map fun t => (Sum.inl t.1, V.int t.2) := by
  unfold kvOf
  rw [List.getElem?_map]
theorem dcK {σ : L2.St} {H : Hp} {vs : List Nat} {n i : Nat} {tt : TT} {tk tv : TE} {Z : VK} {d : Addr} {o : Obj} {m : Pol} (b : Int × Int → Bool) (c : Int × Int → Int) (hv : σ[n]? = some (some (.ref d))) (hd : H d = some (.frz o (.dK (kvOf m)))) (few : m.length ≤ 1000000) (nd : (m.map (·.1)).Nodup)
    (hw : ∀ x, wipe ((wipe σ vs).set i (some x)) vs = wipe σ vs)
    (ht : ∀ t ∈ m, ∀ H2, Same H H2 → ∀ S : Bool → Hp → Prop, S (b t) H2 → tt ((wipe σ vs).set i (some (.int t.1))) H2 S)
    (hk : ∀ t ∈ m, ∀ H2, Same H H2 → ∀ S : VK, S (.int t.1) H2 → tk ((wipe σ vs).set i (some (.int t.1))) H2 S)
    (he : ∀ t ∈ m, ∀ H2, Same H H2 → ∀ S : VK, S (.int (c t)) H2 → tv ((wipe σ vs).set i (some (.int t.1))) H2 S)
    (k : ∀ D H2, H D = none → Same H H2 → H2 D = some (.dK (kvOf ((m.filter b).map fun t => (t.1, c t)))) → Z (.ref D) H2) : tDc (iKeys (tVar n)) (gName i) tt tk tv vs σ H Z := by
  refine ⟨_, hv, d, o, rfl, .inl ⟨kvOf m, hd, fun D nD => ?_⟩⟩
  have len := kv_len m
  let got := fun j => ((m.take j).filter b).map fun t => (t.1, c t)
  refine ⟨fun j left G => left = m.length - j ∧ j ≤ m.length ∧ Same H G ∧ G D = some (.dK (kvOf (got j))), ⟨m.length, by rw [Nat.sub_zero], Nat.zero_le _, same_new nD, upd_same⟩, ?_⟩
  rintro j left G ⟨rfl, hj, s, hD⟩
  by_cases lt : j < m.length
  · refine .inr ⟨⟨s _ _ hd, by rw [len]; exact lt⟩, fun G => Same H G ∧ G D = some (.dK (kvOf (got (j + 1)))), fun G q => ⟨_, by omega, rfl, lt, q⟩, ?_⟩
    rintro x G' ⟨rfl, key, v, at_, rfl⟩
    rw [kv_at, List.getElem?_eq_getElem lt, Option.map_some] at at_
    cases at_
    have mem : m[j] ∈ m := List.getElem_mem lt
    have next : m.take (j + 1) = m.take j ++ [m[j]] := take_snoc (List.getElem?_eq_getElem lt)
    refine ⟨hw _, ht _ mem G' s _ ?_⟩
    cases hb : b m[j] with
    | true =>
      rw [if_pos rfl]
      refine hk _ mem G' s _ (he _ mem G' s _ ⟨_, Sum.inl (m[j]).1, rfl, hD, ?_, ?_, ?_⟩)
      · have := List.length_filter_le b (m.take j)
        rw [List.length_take] at this
        rw [kv_len]
        show ((((m.take j).filter b).map fun t => (t.1, c t))).length < sizeLine
        rw [List.length_map, sizeLine_eq]
        omega
      · exact same_mut s nD
      · have e : got (j + 1) = got j ++ [((m[j]).1, c m[j])] := by
          show ((m.take (j + 1)).filter b).map _ = _
          rw [next, List.filter_append, List.map_append, List.filter_cons_of_pos hb, List.filter_nil]
          rfl
        have keys : (got j).map (·.1) = ((m.take j).filter b).map (·.1) := by
          show (((m.take j).filter b).map _).map _ = _
          rw [List.map_map]
          rfl
        have gn : ((got j).map (·.1)).Nodup := by
          rw [keys]
          exact nd.sublist ((List.filter_sublist.trans (List.take_sublist _ _)).map _)
        have out : (m[j]).1 ∉ (got j).map (·.1) := fun z => by
          rw [keys] at z
          have h1 : ((m.take (j + 1)).map (·.1)).Nodup := nd.sublist ((List.take_sublist _ _).map _)
          rw [next, List.map_append, List.nodup_append] at h1
          obtain ⟨u, hu, eu⟩ := List.mem_map.mp z
          exact h1.2.2 u.1 (List.mem_map_of_mem (List.mem_filter.mp hu).1) (m[j]).1 (List.mem_singleton.mpr rfl) eu
        rw [upd_same, kv_put gn, put_new out, e]
    | false =>
      rw [if_neg Bool.false_ne_true]
      refine ⟨s, ?_⟩
      have e : got (j + 1) = got j := by
        show ((m.take (j + 1)).filter b).map _ = _
        rw [next, List.filter_append, List.filter_cons_of_neg (by rw [hb]; exact Bool.false_ne_true), List.filter_nil, List.append_nil]
      rw [e]
      exact hD
  · have e : j = m.length := by omega
    subst e
    refine .inl ⟨⟨s _ _ hd, by rw [len]; exact Nat.le_refl _⟩, k D G nD s ?_⟩
    rw [hD]
    show some (HO.dK (kvOf (((m.take m.length).filter b).map _))) = _
    rw [List.take_length]
theorem zr_map (p : Int) : ∀ m : Pol, ((m.filter fun t => decide (t.2 % p ≠ 0)).map fun t => (t.1, t.2 % p)) = zr p m
  | [] => rfl
  | t :: r => by
    rw [zr_cons, List.filter_cons]
    by_cases e : t.2 % p ≠ 0
    · rw [if_pos e, if_pos (decide_eq_true e), List.map_cons, zr_map p r]
    · rw [if_neg e, if_neg fun z => e (of_decide_eq_true z), zr_map p r]
theorem mem_le_sum {x : Nat} : ∀ {l : List Nat}, x ∈ l → x ≤ l.sum
  | y :: r, h => by
    rw [List.sum_cons]
    rcases List.mem_cons.mp h with e | h
    · omega
    · have := mem_le_sum h
      omega
theorem gAt_of {G : Grp} (n : (G.map (·.1)).Nodup) {g : Pol × Pol} (h : g ∈ G) : gAt G g.1 = some g.2 := by
  induction G with
  | nil => cases h
  | cons u r ih =>
    have nn := List.nodup_cons.mp (show (u.1 :: r.map (·.1)).Nodup from n)
    rw [gAt_cons]
    rcases List.mem_cons.mp h with e | h
    · rw [e, if_pos rfl]
    · rw [if_neg fun (z : u.1 = g.1) => nn.1 (z ▸ List.mem_map_of_mem h), ih nn.2 h]
theorem gAt_out {G : Grp} {r : Pol} (h : r ∉ G.map (·.1)) : gAt G r = none := by
  induction G with
  | nil => rfl
  | cons u q ih =>
    rw [gAt_cons, if_neg fun (z : u.1 = r) => h (z ▸ List.mem_cons_self), ih fun z => h (List.mem_cons_of_mem _ z)]
theorem gSet_out {G : Grp} {r m : Pol} (h : r ∉ G.map (·.1)) : gSet G r m = G ++ [(r, m)] := by
  unfold gSet
  rw [gAt_out h]
  rfl
/-- a dict of ints is let go -/
theorem tq_dK {H : Hp} {d : Addr} {o : Obj} {kvs : List (Key × V)} {u : HO} (h : H d = some (.frz o (.dK kvs))) : Tq H (upd H d u) := fun K a xs q => by
  rcases q with (q | ⟨o', q⟩) | q
  · exact .inl (.inl (by rw [upd_ne (ne_of q h fun z => nomatch z)]; exact q))
  · exact .inl (.inr ⟨o', by rw [upd_ne (ne_of q h fun z => nomatch z)]; exact q⟩)
  · exact .inr q
/-- what was locked and let go again stands as it stood -/
theorem same_back {H H2 : Hp} {d : Addr} {o : Obj} {u : HO} (hd : H d = some u) (s : Same (upd H d (.frz o u)) H2) : Same H (upd H2 d u) := fun b v e => by
  by_cases z : b = d
  · rw [z, hd] at e
    rw [z, upd_same, e]
  · rw [upd_ne z]
    exact s b v (by rw [upd_ne z]; exact e)
/-- the groups while a dict of theirs, or their own, is locked -/
theorem GT.lock {K : PySem.W.Frag} {H0 H : Hp} {T : NkT} {G : Grp} {a : Addr} {o : Obj} {φ : Heap → Prop} (ha : H a = some (.ext φ)) (h : GT K H0 H T G) : GT K H0 (upd H a (.frz o (.ext φ))) T G := h.other ha (fun _ z => nomatch z) (tq_ext ha)
theorem GT.free {K : PySem.W.Frag} {H0 H : Hp} {T : NkT} {G : Grp} {a : Addr} {o : Obj} {φ : Heap → Prop} {u : HO} (ha : H a = some (.frz o (.ext φ))) (h : GT K H0 H T G) : GT K H0 (upd H a u) T G := h.other ha (fun _ z => nomatch z) (tq_frz ha)
end DR
/-! ### terms gathered into groups -/
namespace DR
open PySem PySem.Spec PyProof.Rows L2
def gtot (G : Grp) : Nat := (G.map fun g => g.2.length).sum
theorem gtot_cons (g : Pol × Pol) (G : Grp) : gtot (g :: G) = g.2.length + gtot G := by
  unfold gtot
  rw [List.map_cons, List.sum_cons]
theorem gtot_app (A B : Grp) : gtot (A ++ B) = gtot A + gtot B := by
  unfold gtot
  rw [List.map_append, List.sum_append]
theorem gtot_map {r m m0 : Pol} : ∀ {G : Grp}, (G.map (·.1)).Nodup → gAt G r = some m0 → gtot (G.map fun g => if g.1 = r then (g.1, m) else g) + m0.length = gtot G + m.length
  | [], _, h => by cases h
  | g :: G, n, h => by
    have nn := List.nodup_cons.mp (show (g.1 :: G.map (·.1)).Nodup from n)
    rw [gAt_cons] at h
    rw [List.map_cons, gtot_cons, gtot_cons]
    by_cases e : g.1 = r
    · rw [if_pos e] at h ⊢
      rw [map_off (by rw [← e]; exact nn.1), ← Option.some.inj h]
      show m.length + gtot G + g.2.length = _
      omega
    · rw [if_neg e] at h ⊢
      have := gtot_map (m := m) nn.2 h
      omega
theorem gtot_set {G : Grp} {r m : Pol} (n : (G.map (·.1)).Nodup) : gtot (gSet G r m) + ((gAt G r).getD []).length = gtot G + m.length := by
  cases h : gAt G r with
  | none =>
    unfold gSet
    rw [h]
    show gtot (G ++ [(r, m)]) + 0 = _
    rw [gtot_app, gtot_cons]
    show gtot G + (m.length + 0) + 0 = _
    omega
  | some m0 =>
    unfold gSet
    rw [h]
    exact gtot_map n h
theorem gSet_len {G : Grp} {r m : Pol} : (gSet G r m).length ≤ G.length + 1 := by
  unfold gSet
  split
  · rw [List.length_map]
    exact Nat.le_succ _
  · rw [List.length_append]
    exact Nat.le_refl _
theorem mem_gSet {G : Grp} {r m : Pol} {g : Pol × Pol} (h : g ∈ gSet G r m) : g ∈ G ∨ g = (r, m) := by
  unfold gSet at h
  split at h
  · obtain ⟨u, hu, rfl⟩ := List.mem_map.mp h
    split
    · next e =>
      rw [e]
      exact .inr rfl
    · exact .inl hu
  · rcases List.mem_append.mp h with h | h
    · exact .inl h
    · exact .inr (List.mem_singleton.mp h)
/-- groups while they are gathered -/
structure GI (N M : Nat) (R : Pol → Prop) (G : Grp) : Prop where
  nd : (G.map (·.1)).Nodup
  sums : ∀ g ∈ G, (g.2.map (·.1)).Nodup
  total : gtot G ≤ N
  many : G.length ≤ M
  keys : ∀ g ∈ G, R g.1
theorem GI.nil {R : Pol → Prop} : GI 0 0 R [] := ⟨List.nodup_nil, fun _ h => absurd h List.not_mem_nil, Nat.le_refl _, Nat.le_refl _, fun _ h => absurd h List.not_mem_nil⟩
theorem GI.gok {N M : Nat} {R : Pol → Prop} {G : Grp} (h : GI N M R G) {B : Nat} (le : N ≤ B) (le2 : M ≤ B) : GOk B G := ⟨h.nd, h.sums, Nat.le_trans h.total le, Nat.le_trans h.many le2⟩
/-- a key for what comes -/
theorem GI.key {N M : Nat} {R : Pol → Prop} {G : Grp} {r : Pol} (h : GI N M R G) (hr : R r) (no : gAt G r = none) : GI N (M + 1) R (gSet G r []) ∧ gAt (gSet G r []) r = some [] ∧ ∀ x, gv (gSet G r []) x = gv G x := by
  have t := gtot_set (m := []) (r := r) h.nd
  have l := gSet_len (G := G) (r := r) (m := [])
  have a := h.total
  have b := h.many
  refine ⟨⟨gSet_nodup h.nd, fun g hg => ?_, ?_, by omega, fun g hg => ?_⟩, ?_, fun x => ?_⟩
  · rcases mem_gSet hg with m | rfl
    · exact h.sums g m
    · exact List.nodup_nil
  · have : ([] : Pol).length = 0 := rfl
    omega
  · rcases mem_gSet hg with m | rfl
    · exact h.keys g m
    · exact hr
  · have n := gSet_nodup (r := r) (m := []) h.nd
    refine gAt_of n (g := (r, [])) ?_
    unfold gSet
    rw [no]
    exact List.mem_append_right _ (List.mem_singleton.mpr rfl)
  · rw [gv_set x h.nd, no]
    show gv G x + (mv [] _ x - mv [] _ x) = _
    omega
/-- one place of one group changes -/
theorem GI.turn {N M : Nat} {R : Pol → Prop} {G : Grp} {r m : Pol} (h : GI N M R G) (at_ : gAt G r = some m) (e c : Int) : GI (N + 1) M R (gSet G r (put m e (cf m e + c))) ∧ gAt (gSet G r (put m e (cf m e + c))) r = some (put m e (cf m e + c)) ∧ ∀ x, gv (gSet G r (put m e (cf m e + c))) x = gv G x + c * wy r (x - e) := by
  obtain ⟨g0, hg0, e1, e2⟩ : ∃ g ∈ G, g.1 = r ∧ g.2 = m := by
    unfold gAt at at_
    obtain ⟨g, hg, e⟩ := Option.map_eq_some_iff.mp at_
    exact ⟨g, List.mem_of_find?_eq_some hg, of_decide_eq_true (List.find?_some (p := fun (g : Pol × Pol) => decide (g.1 = r)) hg), e⟩
  have mn : (m.map (·.1)).Nodup := e2 ▸ h.sums g0 hg0
  have t := gtot_set (m := put m e (cf m e + c)) (r := r) h.nd
  rw [at_] at t
  have pl := put_len m e (cf m e + c)
  have keys := gSet_keys (m := put m e (cf m e + c)) (show (gAt G r).isSome = true by rw [at_]; rfl)
  have many : (gSet G r (put m e (cf m e + c))).length = G.length := by
    have := congrArg List.length keys
    rwa [List.length_map, List.length_map] at this
  have a := h.total
  have b := h.many
  have t : gtot (gSet G r (put m e (cf m e + c))) + m.length = gtot G + (put m e (cf m e + c)).length := t
  refine ⟨⟨gSet_nodup h.nd, fun g hg => ?_, by omega, by omega, fun g hg => ?_⟩, ?_, fun x => ?_⟩
  · rcases mem_gSet hg with q | rfl
    · exact h.sums g q
    · exact put_nodup _ _ _ mn
  · rcases mem_gSet hg with q | rfl
    · exact h.keys g q
    · exact e1 ▸ h.keys g0 hg0
  · refine gAt_of (gSet_nodup h.nd) (g := (r, _)) ?_
    unfold gSet
    rw [at_]
    exact List.mem_map.mpr ⟨g0, hg0, by rw [if_pos e1, e1]⟩
  · rw [gv_set x h.nd, at_]
    show gv G x + (mv (put m e (cf m e + c)) (wy r) x - mv m (wy r) x) = _
    rw [mv_put x mn, show cf m e + c - cf m e = c by omega]
    omega
/-- groups as without_zeros leaves them -/
structure GW (p : Int) (N M : Nat) (R : Pol → Prop) (G : Grp) : Prop where
  gi : GI N M R G
  full : ∀ g ∈ G, g.2 ≠ []
  rng : ∀ g ∈ G, ∀ t ∈ g.2, 0 < t.2 ∧ t.2 < p
theorem GI.wz {p : Int} {N M : Nat} {R : Pol → Prop} {G : Grp} (hp : 0 < p) (h : GI N M R G) : GW p N M R (wz p G) := by
  have tot : ∀ G : Grp, gtot (DR.wz p G) ≤ gtot G := fun G => by
    induction G with
    | nil => exact Nat.le_refl _
    | cons g G ih =>
      have : (zr p g.2).length ≤ g.2.length := by
        unfold zr
        exact Nat.le_trans (List.length_filter_le _ _) (by rw [List.length_map]; exact Nat.le_refl _)
      rw [wz_cons, gtot_cons]
      split
      · rw [gtot_cons]
        show (zr p g.2).length + _ ≤ _
        omega
      · omega
  refine ⟨⟨wz_nodup h.nd, fun g hg => ?_, Nat.le_trans (tot G) h.total, ?_, fun g hg => ?_⟩, fun g hg => ?_, fun g hg t ht => ?_⟩
  · obtain ⟨u, hu, _, e, _⟩ := wz_sub g hg
    rw [e]
    exact zr_nodup (h.sums u hu)
  · unfold DR.wz
    refine Nat.le_trans (List.length_filter_le _ _) ?_
    rw [List.length_map]
    exact h.many
  · obtain ⟨u, hu, e, _⟩ := wz_sub g hg
    rw [e]
    exact h.keys u hu
  · obtain ⟨_, _, _, _, e⟩ := wz_sub g hg
    exact e
  · obtain ⟨u, hu, _, e, _⟩ := wz_sub g hg
    rw [e] at ht
    obtain ⟨v, _, _, e2, e3⟩ := zr_sub t ht
    rw [e2] at e3 ⊢
    have a := Int.emod_nonneg v.2 (show p ≠ 0 by omega)
    exact ⟨by omega, Int.emod_lt_of_pos _ hp⟩
theorem gAt_mem {G : Grp} {r m : Pol} (h : gAt G r = some m) : ∃ g ∈ G, g.1 = r ∧ g.2 = m := by
  unfold gAt at h
  obtain ⟨g, hg, e⟩ := Option.map_eq_some_iff.mp h
  exact ⟨g, List.mem_of_find?_eq_some hg, of_decide_eq_true (List.find?_some (p := fun (g : Pol × Pol) => decide (g.1 = r)) hg), e⟩
theorem GI.here {N M : Nat} {R : Pol → Prop} {G : Grp} {r m : Pol} (h : GI N M R G) (at_ : gAt G r = some m) : (m.map (·.1)).Nodup ∧ m.length ≤ N := by
  obtain ⟨g, hg, _, e⟩ := gAt_mem at_
  refine ⟨e ▸ h.sums g hg, ?_⟩
  have h1 := h.total
  have h2 : g.2.length ≤ gtot G := mem_le_sum (List.mem_map_of_mem (f := fun g : Pol × Pol => g.2.length) hg)
  rw [e] at h2
  omega
section
variable {K : PySem.W.Frag} {H0 H : Hp} {T : NkT} {G : Grp} {r m : Pol} {d : Addr}
theorem gt_here (h : GT K H0 H T G) (e1 : gAt G r = some m) (e2 : valN T (nkPol r) = some (.ref d)) : H d = some (.dK (kvOf m)) ∧ H0 d = none := by
  rcases gt_at (r := r) h.each with ⟨z, _⟩ | ⟨m', d', f1, f2, f3, f4⟩
  · rw [e1] at z
    cases z
  · rw [e1] at f1
    cases f1
    rw [e2] at f2
    cases f2
    exact ⟨f3, f4⟩
/-- what is new is no dict of theirs -/
theorem gt_free (h : GT K H0 H T G) (nd : H d = none) : V.ref d ∉ T.map (·.2.2) := fun y => by
  obtain ⟨u, hu, eu⟩ := List.mem_map.mp y
  obtain ⟨j, hj⟩ := List.mem_iff_getElem?.mp hu
  obtain ⟨g', _, ge'⟩ := LiI.paired_get h.each hj
  obtain ⟨d', k1, k2, _⟩ := ge'.sums
  rw [k1] at eu
  cases eu
  rw [nd] at k2
  cases k2
theorem valN_new {b : Addr} {v : V} {k : NestedKey} (no : valN T k = none) : valN (setN T k b v) k = some v := by
  unfold setN
  rw [no]
  show valN (T ++ [(k, b, v)]) k = _
  unfold valN at no ⊢
  rw [List.find?_append, Option.map_eq_none_iff.mp no, List.find?_cons, decide_eq_true rfl]
  rfl
end
def sp_grouped (w : World) (K : PySem.W.Frag) : Sp := fun vs H Q _ => ∃ (p : Int) (D : Addr) (ys : List V) (ts : List Tm), vs = [.int p, .ref D] ∧ 0 < p ∧ SqL K H D ys ∧ TVs K H ys ts ∧ ts.length ≤ 10000 ∧
  ∀ a H' G, Same H H' → GD w K H' a G → (∀ x, p ∣ tvs ts x - gv G x) → (∀ R : Pol → Prop, (∀ t ∈ ts, R t.rs) → GW p ts.length ts.length R G) → Q (.ref a) H'
end DR
namespace DR
open PySem PySem.Spec PyProof.Rows L2
/-! ### defs that show things: they are called where no repr runs -/
/-- a promise that is kept wherever no repr runs -/
structure OkG (P : Program) (w : World) (K : PySem.W.Frag) (mg : Str → Option Value) (base : Heap) (k : Nat) (f : Addr) (fd : FuncData) (ps : List Str) (sp : Sp) : Prop where
  len : ∀ vs H Q E, sp vs H Q E → vs.length = ps.length
  run : ∀ (A : Around) (outer : List Env) (s : Shared) (H : Hp) (args : Args) (us : List Value) (vs : List V) (Q : VK) (E : XK), A.guards = some [] → Room k A → Env0 P w K mg base A outer s H →
    BindsTo s fd args (ps.zip us) → Vals vs us → sp vs H Q E → codeAny (model P w) A (.call (.ref f) args) (CR CX0 outer P w H s Q E) s
theorem okG_of {P : Program} {w : World} {K : PySem.W.Frag} {mg : Str → Option Value} {base : Heap} {x qual : Str} {st : Stmt} {f : Addr} {fd : FuncData} {N ps : List Str} {k : Nat} {sp : Sp} (F : Fun K x qual st f fd) (S : FnScope N ps (defScope st))
    (len : ∀ vs H Q E, sp vs H Q E → vs.length = ps.length)
    (body : ∀ (cdv : Value) (A : Around) (outer : List Env) (s : Shared) (H : Hp) (vs : List V) (Q : VK) (E : XK), (A.deeper (envOfC qual (defScope st) s.heap.objs.size f cdv)).guards = some [] → Room k (A.deeper (envOfC qual (defScope st) s.heap.objs.size f cdv)) → sp vs H Q E →
      ∃ t, PSs (cxOf CX0 P w K mg base N qual (defScope st) f cdv A outer s H E).nox (defBody st) t ∧ t { nx := fun _ H' => Q .non H', rt := Q } (start N vs) H) : OkG P w K mg base (k + 1) f fd ps sp := by
  refine ⟨len, fun A outer s H args us vs Q E calm room env bind rel want => ?_⟩
  rcases F.ex with ⟨c1, c2, c3, c4, c5, c6, code, c7, c8, efd, look, hcode⟩
  subst efd
  have there : ∀ b o, base.get? b = some o → s.heap.get? b = some o := fun b o e => (env.bs b o e).1
  have inK := env.mod.kin.keeps there
  have free := env.mod.nolimit.keeps there
  have names : ∀ y ∈ ps.zip us, (defScope st).names.lookup y.1 = some .local ∨ ((defScope st).names.lookup y.1 = some .cell ∧ ((cellsFrom (s.heap.objs.size + 1) (defScope st).names []).lookup y.1).isSome = true) := fun y hy =>
    (S.par y.1 (List.of_mem_zip hy).1).imp id fun c => ⟨c, PySem.W.cellsFrom_some _ _ _ (.inl c)⟩
  apply codeAny_call_function room.depth (inK _ _ look) rfl S.co S.gen rfl (PySem.W.codeRec_of inK hcode)
  apply bind
  apply wpAny_newFunctionEnv_cells S.kind names
  rintro _ rfl s1 new
  refine ⟨free.keeps new.toInCall.keep, codeAny_func ?_⟩
  obtain ⟨t, term, reading⟩ := body code A outer s H vs Q E calm (room.deeper _) want
  have start' := inv_start (CX := CX0) (E := E) S room.hd env (len _ _ _ _ want) rel new
  apply wpAny_mono (term.nox.run [] s1 (start N vs) H _ start' reading)
  · rintro (_ | u | _ | _) s2 got
    · obtain ⟨_, H', J, q⟩ := got
      exact ⟨.non, H', J.os, J.bare, J.base, J.hok, rfl, q⟩
    all_goals first
      | exact (let ⟨v, _, H', J, rv, q⟩ := got; ⟨v, H', J.os, J.bare, J.base, J.hok, rv, q⟩)
      | exact got.elim fun _ z => z.elim fun _ y => y.2.elim
  · exact fun _ _ h => h
structure CalG (P : Program) (w : World) (K : PySem.W.Frag) (mg : Str → Option Value) (base : Heap) (k : Nat) (x : Str) (sp : Sp) : Prop where
  ex : ∃ (f : Addr) (fd : FuncData) (ps : List Str), OkG P w K mg base k f fd ps sp ∧ mg x = some (.ref f) ∧ PySem.W.keepIn K (.ref f) = true ∧ Binds K fd ps []
theorem cal_ofG {P : Program} {w : World} {K : PySem.W.Frag} {mg : Str → Option Value} {base : Heap} {k : Nat} {x : Str} {st : Stmt} {ps : List Str} {sp : Sp} (D : Df K mg x st)
    (b : ∀ (kV doc pm : Value) (an : Option Addr) (cdv ct : Value) (us : List Value), us.length = ps.length → bindArgs (PySem.W.fnOf x x (defArgs st) (defBody st) (defScope st) .none kV doc pm an cdv ct) ⟨us, []⟩ = pure (ps.zip us))
    (ok : ∀ f fd, Fun K x x st f fd → OkG P w K mg base k f fd ps sp) : CalG P w K mg base k x sp :=
  D.ex.elim fun f z => z.elim fun fd y => ⟨f, fd, ps, ok f fd y.1, y.2.1, y.2.2, y.1.binds b⟩
/-- its call, where no repr runs -/
theorem pe_cG {X : Cx} {k j : Nat} {x : Str} {sp : Sp} {p pos : Pos} {e : Expr} {es : List Expr} {t : TA} (c : CalG X.prog X.w X.K X.mg X.base k x sp) (calm : X.A.guards = some []) (hr : Room j X.A) (hk : k ≤ j) (hg : Gl X x) (ha : PA X (e :: es) t)
    (h1 : (x == ("__debug__" : Str)) = false := by decide) (h2 : starEach (e :: es) X.env = (false, eval e X.env) :: starEach es X.env := by rfl) (h3 : (backTo pos (starEach es X.env)).any (·.1) = false := by rfl) :
    PE X (.Call (.Name x p) (e :: es) [] pos) (tCall sp [] E0 t) := by
  obtain ⟨f, fd, ps, F, hm, kp, b⟩ := c.ex
  constructor
  intro pins s σ H Q I want
  have args := ha.run pos pins s σ H _ I want
  apply wpAny_Call_Name_kw
  apply ld_glob I hg hm _ h1
  refine PySem.W.callWith_K (h₀ := X.base) I.ok.mod.kin kp (thn args ?_) h2 h3
  rintro us s1 ⟨vs, H1, J, rel, goal⟩
  rw [List.append_nil] at goal
  have many : us.length = ps.length := rel.length ▸ F.len _ _ _ _ goal
  have bind := b s1 us J.kIn (by rw [List.append_nil]; exact many)
  rw [List.append_nil] at bind
  refine ⟨J.kIn, wpAny_call (codeAny_mono (F.run X.A X.stack s1 H1 ⟨us, []⟩ us vs Q E0 calm (hr.mono hk) J.env0 bind rel goal) ?_)⟩
  rintro (err | (_ | u | _ | _)) s2 got
  all_goals first
    | exact J.after got
    | exact False.elim got
end DR
namespace DR
open PySem PySem.Spec PyProof.Rows L2
/-! ### unit instructions -/
def IsUnit (i : Ins) : Prop := i = .step 1 ∨ i = .step (-1) ∨ i = .turn 1 ∨ i = .turn (-1)
/-- how a unit instruction is shown -/
def unD (w : Str) (c : Int) : PyData := .tuple [.str w, .int c]
def unTexts : List V := [.str "('step', 1)", .str "('step', -1)", .str "('turn', 1)", .str "('turn', -1)"]
theorem un_s1 : inV (.str (unD "step" 1).shown) unTexts = true := by decide +kernel
theorem un_s2 : inV (.str (unD "step" (-1)).shown) unTexts = true := by decide +kernel
theorem un_t1 : inV (.str (unD "turn" 1).shown) unTexts = true := by decide +kernel
theorem un_t2 : inV (.str (unD "turn" (-1)).shown) unTexts = true := by decide +kernel
theorem un_say : ∀ {w : Str} {c : Int}, (w = "step" ∨ w = "turn") → (c = 1 ∨ c = -1) → (unD w c).showable = true ∧ (unD w c).depth ≤ 64 ∧ (unD w c).shown.length ≤ sizeLine ∧ inV (.str (unD w c).shown) unTexts = true := by
  have sz : ∀ {n : Nat}, n ≤ 30 → n ≤ sizeLine := fun h => sl_of (by omega)
  rintro w c (rfl | rfl) (rfl | rfl)
  · exact ⟨by decide +kernel, by decide +kernel, sz (by decide +kernel), un_s1⟩
  · exact ⟨by decide +kernel, by decide +kernel, sz (by decide +kernel), un_s2⟩
  · exact ⟨by decide +kernel, by decide +kernel, sz (by decide +kernel), un_t1⟩
  · exact ⟨by decide +kernel, by decide +kernel, sz (by decide +kernel), un_t2⟩
/-- the effect of unit instructions -/
def sp__law_unit_effect (K : PySem.W.Frag) : Sp := fun vs H Q _ => ∃ (p : Int) (D : Addr) (xs : List V) (b : List Ins), vs = [.int p, .ref D] ∧ 0 < p ∧ SqL K H D xs ∧ FIs K H xs b ∧ (∀ i ∈ b, IsUnit i) ∧ b.length ≤ 100000 ∧
  ∀ u H' g, Same H H' → TEff K H' u g (shP b) → Nf p g (seP b) → g.length ≤ b.length → Q u H'
end DR
namespace DR
open PySem PySem.Spec PyProof.Rows L2
/-! ### lengths of compositions -/
theorem ft_zero {p : Int} (hp : 0 < p) : ft p 0 = 0 := by
  unfold ft
  rw [if_neg (by omega)]
theorem ft_nn {p v : Int} (h0 : 0 ≤ v) (h1 : v < p) : 0 ≤ ft p v := by
  unfold ft
  split <;> omega
theorem ft_pos {p v : Int} (h0 : 0 < v) (h1 : v < p) : 0 < ft p v := by
  unfold ft
  split <;> omega
/-- turns of a sum -/
theorem ft_add {p a b : Int} (a0 : 0 ≤ a) (a1 : a < p) (b0 : 0 ≤ b) (b1 : b < p) : ft p ((a + b) % p) ≤ ft p a + ft p b := by
  have e : (a + b) % p = if a + b < p then a + b else a + b - p := by
    by_cases h : a + b < p
    · rw [if_pos h, Int.emod_eq_of_lt (by omega) h]
    · rw [if_neg h, ← Int.emod_eq_of_lt (show 0 ≤ a + b - p by omega) (show a + b - p < p by omega), Int.sub_emod_right]
  rw [e]
  unfold ft
  repeat' split
  all_goals omega
/-- turns of what is taken back -/
theorem ft_neg {p a : Int} (a0 : 0 ≤ a) (a1 : a < p) : ft p (a * -1 % p) = ft p a := by
  have e : a * -1 % p = if a = 0 then 0 else p - a := by
    by_cases h : a = 0
    · rw [if_pos h, h]
      rfl
    · rw [if_neg h, ← Int.emod_eq_of_lt (show 0 ≤ p - a by omega) (show p - a < p by omega), show a * -1 = p - a - p by omega, Int.sub_emod_right]
  rw [e]
  unfold ft
  repeat' split
  all_goals omega
/-- the turns, added up over any places that hold them all -/
theorem turns_on {p : Int} (hp : 0 < p) : ∀ {g : Pol}, (g.Pairwise fun x y => x.1 < y.1) → ∀ {L : List Int}, L.Nodup → (∀ t ∈ g, t.1 ∈ L) → turnsOf p g = (L.map fun x => ft p (cf g x)).sum
  | [], _, L, _, _ => by
    have : ∀ L : List Int, (L.map fun x => ft p (cf ([] : Pol) x)).sum = 0 := fun L => by
      induction L with
      | nil => rfl
      | cons x L ih => rw [List.map_cons, List.sum_cons, ih, cf_nil, ft_zero hp]; rfl
    rw [this]
    rfl
  | t :: r, h, L, nd, hL => by
    have h' := List.pairwise_cons.mp h
    have ht : t.1 ∈ L := hL t List.mem_cons_self
    obtain ⟨A, B, rfl⟩ := List.append_of_mem ht
    have nd2 : (A ++ B).Nodup := by
      have := nd
      rw [List.nodup_append] at this ⊢
      exact ⟨this.1, (List.nodup_cons.mp this.2.1).2, fun a ha b hb => this.2.2 a ha b (List.mem_cons_of_mem _ hb)⟩
    have nA : t.1 ∉ A ++ B := fun z => by
      rw [List.nodup_append] at nd
      rcases List.mem_append.mp z with z | z
      · exact nd.2.2 _ z t.1 List.mem_cons_self rfl
      · exact (List.nodup_cons.mp nd.2.1).1 z
    have ih := turns_on hp h'.2 nd2 (fun u hu => by
      have h1 := hL u (List.mem_cons_of_mem _ hu)
      have h2 := h'.1 u hu
      rcases List.mem_append.mp h1 with h1 | h1
      · exact List.mem_append_left _ h1
      · rcases List.mem_cons.mp h1 with h1 | h1
        · omega
        · exact List.mem_append_right _ h1)
    have same : ∀ x ∈ A ++ B, ft p (cf (t :: r) x) = ft p (cf r x) := fun x hx => by
      rw [cf_cons, if_neg (fun z : t.1 = x => nA (z ▸ hx)), Int.zero_add]
    have e1 : turnsOf p (t :: r) = ft p t.2 + turnsOf p r := rfl
    have e2 : cf (t :: r) t.1 = t.2 := cf_head h
    have e3 : ((A ++ t.1 :: B).map fun x => ft p (cf (t :: r) x)).sum = (A.map fun x => ft p (cf r x)).sum + (ft p t.2 + (B.map fun x => ft p (cf r x)).sum) := by
      rw [List.map_append, List.map_cons, List.sum_append, List.sum_cons, e2, List.map_congr_left (fun x hx => same x (List.mem_append_left _ hx)), List.map_congr_left (fun x hx => same x (List.mem_append_right _ hx))]
    rw [e1, ih, e3, List.map_append, List.sum_append]
    omega
theorem sum_le3 {F G K : Int → Int} : ∀ (L : List Int), (∀ x ∈ L, F x ≤ G x + K x) → (L.map F).sum ≤ (L.map G).sum + (L.map K).sum
  | [], _ => by simp
  | x :: L, h => by
    have h1 := h x List.mem_cons_self
    have h2 := sum_le3 L fun y hy => h y (List.mem_cons_of_mem _ hy)
    rw [List.map_cons, List.map_cons, List.map_cons, List.sum_cons, List.sum_cons, List.sum_cons]
    omega
theorem cf_in {q : Int} (hq : 0 < q) {g : Pol} {F : Int → Int} (N : Nf q g F) (x : Int) : 0 ≤ cf g x ∧ cf g x < q := by
  rw [N.cof]
  exact ⟨Int.emod_nonneg _ (by omega), Int.emod_lt_of_pos _ hq⟩
/-- shifted places -/
theorem turns_mv {p m : Int} (f : Pol) : turnsOf p (moved m f) = turnsOf p f := by
  unfold turnsOf moved
  rw [List.map_map]
  rfl
def dedup : List Int → List Int
  | [] => []
  | x :: r => if x ∈ dedup r then dedup r else x :: dedup r
theorem dedup_mem : ∀ (L : List Int) (x : Int), x ∈ dedup L ↔ x ∈ L
  | [], x => Iff.rfl
  | y :: r, x => by
    unfold dedup
    have ih := dedup_mem r x
    by_cases h : y ∈ dedup r
    · rw [if_pos h, ih]
      refine ⟨List.mem_cons_of_mem _, fun z => ?_⟩
      rcases List.mem_cons.mp z with z | z
      · rw [z]
        exact (dedup_mem r y).mp h
      · exact z
    · rw [if_neg h, List.mem_cons, List.mem_cons, ih]
theorem dedup_nd : ∀ L : List Int, (dedup L).Nodup
  | [] => List.nodup_nil
  | y :: r => by
    unfold dedup
    by_cases h : y ∈ dedup r
    · rw [if_pos h]
      exact dedup_nd r
    · rw [if_neg h]
      exact List.nodup_cons.mpr ⟨h, dedup_nd r⟩
/-- turns of a composition -/
theorem turns_add {q m : Int} {f g r : Pol} {F G : Int → Int} (hq : 0 < q) (nf : Nf q f F) (ng : Nf q g G) (N : Nf q r (fun e => cf f e + cf g (e - m))) : turnsOf q r ≤ turnsOf q f + turnsOf q g := by
  let L := dedup (f.map (·.1) ++ (moved m g).map (·.1))
  have inF : ∀ t ∈ f, t.1 ∈ L := fun t ht => (dedup_mem _ _).mpr (List.mem_append_left _ (List.mem_map_of_mem ht))
  have inG : ∀ t ∈ moved m g, t.1 ∈ L := fun t ht => (dedup_mem _ _).mpr (List.mem_append_right _ (List.mem_map_of_mem ht))
  have inR : ∀ t ∈ r, t.1 ∈ L := N.sub fun e he => by
    have z1 : cf f e = 0 := cf_out fun z => he ((dedup_mem _ _).mpr (List.mem_append_left _ z))
    have z2 : cf (moved m g) e = 0 := cf_out fun z => he ((dedup_mem _ _).mpr (List.mem_append_right _ z))
    rw [cf_moved] at z2
    show (cf f e + cf g (e - m)) % q = 0
    rw [z1, z2]
    rfl
  have ngm := ng.moved m
  rw [← turns_mv (m := m) g, turns_on hq N.asc (dedup_nd _) inR, turns_on hq nf.asc (dedup_nd _) inF, turns_on hq ngm.asc (dedup_nd _) inG]
  refine sum_le3 _ fun x _ => ?_
  obtain ⟨a0, a1⟩ := cf_in hq nf x
  obtain ⟨b0, b1⟩ := cf_in hq ng (x - m)
  show ft q (cf r x) ≤ ft q (cf f x) + ft q (cf (moved m g) x)
  rw [N.cof, cf_moved]
  exact ft_add a0 a1 b0 b1
/-! ### the ends of a walk -/
structure Ends2 (f : Pol) (m lo' hi' : Int) : Prop where
  l0 : lo' ≤ 0
  lm : lo' ≤ m
  h0 : 0 ≤ hi'
  hm : m ≤ hi'
  lt : ∀ t ∈ f, lo' ≤ t.1
  ht : ∀ t ∈ f, t.1 ≤ hi'
theorem endsOf (f : Pol) (m : Int) : Ends2 f m (lo f m) (hi f m) := by
  obtain ⟨a1, a2⟩ := loL_le 0 (places f m)
  obtain ⟨b1, b2⟩ := hiL_ge 0 (places f m)
  exact ⟨a1, a2 m List.mem_cons_self, b1, b2 m List.mem_cons_self, fun t ht => a2 _ (List.mem_cons_of_mem _ (List.mem_map_of_mem ht)), fun t ht => b2 _ (List.mem_cons_of_mem _ (List.mem_map_of_mem ht))⟩
/-- within bounds, the ends lie within -/
theorem ends_in {f : Pol} {m a b : Int} (E : Ends2 f m a b) : a ≤ lo f m ∧ hi f m ≤ b := by
  have h1 : lo f m ∈ 0 :: places f m := loL_mem 0 (places f m)
  have h2 : hi f m ∈ 0 :: places f m := hiL_mem 0 (places f m)
  have inn : ∀ z ∈ (0 : Int) :: places f m, a ≤ z ∧ z ≤ b := fun z hz => by
    rcases List.mem_cons.mp hz with e | hz
    · rw [e]
      exact ⟨E.l0, E.h0⟩
    rcases List.mem_cons.mp hz with e | hz
    · rw [e]
      exact ⟨E.lm, E.hm⟩
    obtain ⟨t, ht, rfl⟩ := List.mem_map.mp hz
    exact ⟨E.lt t ht, E.ht t ht⟩
  exact ⟨(inn _ h1).1, (inn _ h2).2⟩
/-- one after the other is no longer than both -/
theorem len_add2 {q m n : Int} {f g r : Pol} {F G : Int → Int} (hq : 0 < q) (nf : Nf q f F) (ng : Nf q g G) (N : Nf q r (fun e => cf f e + cf g (e - m))) : lenE q r (m + n) ≤ lenE q f m + lenE q g n := by
  have ht := turns_add hq nf ng N
  have ef := endsOf f m
  have eg := endsOf g n
  have rin : ∀ t ∈ r, (∃ u ∈ f, u.1 = t.1) ∨ ∃ u ∈ g, u.1 + m = t.1 := fun t htr => by
    have h := N.sub (L := f.map (·.1) ++ (moved m g).map (·.1)) (fun e he => by
      have z1 : cf f e = 0 := cf_out fun z => he (List.mem_append_left _ z)
      have z2 : cf (moved m g) e = 0 := cf_out fun z => he (List.mem_append_right _ z)
      rw [cf_moved] at z2
      show (cf f e + cf g (e - m)) % q = 0
      rw [z1, z2]
      rfl) t htr
    rcases List.mem_append.mp h with h | h
    · obtain ⟨u, hu, e⟩ := List.mem_map.mp h
      exact .inl ⟨u, hu, e⟩
    · obtain ⟨x, hx, e⟩ := List.mem_map.mp h
      obtain ⟨u, hu, rfl⟩ := List.mem_map.mp hx
      exact .inr ⟨u, hu, e⟩
  have er : Ends2 r (m + n) (min (lo f m) (m + lo g n)) (max (hi f m) (m + hi g n)) := by
    obtain ⟨a1, a2, a3, a4, a5, a6⟩ := ef
    obtain ⟨b1, b2, b3, b4, b5, b6⟩ := eg
    refine ⟨by omega, by omega, by omega, by omega, fun t h => ?_, fun t h => ?_⟩
    · rcases rin t h with ⟨u, hu, e⟩ | ⟨u, hu, e⟩
      · have := a5 u hu; omega
      · have := b5 u hu; omega
    · rcases rin t h with ⟨u, hu, e⟩ | ⟨u, hu, e⟩
      · have := a6 u hu; omega
      · have := b6 u hu; omega
  obtain ⟨c1, c2⟩ := ends_in er
  have := ef.l0; have := ef.lm; have := ef.h0; have := ef.hm
  have := eg.l0; have := eg.lm; have := eg.h0; have := eg.hm
  unfold lenE absI
  repeat' split
  all_goals omega
end DR
namespace DR
open PySem PySem.Spec PyProof.Rows L2
/-! ### what is taken back is as long -/
theorem sum_eq2 {F G : Int → Int} : ∀ (L : List Int), (∀ x ∈ L, F x = G x) → (L.map F).sum = (L.map G).sum := fun L h => by
  rw [List.map_congr_left h]
theorem len_inv1 {q m : Int} {f r : Pol} {F : Int → Int} (hq : 0 < q) (nf : Nf q f F) (N : Nf q r (fun e => cf f (e + m) * -1)) : lenE q r (-m) ≤ lenE q f m := by
  have nm := nf.moved (-m)
  have sub : ∀ t ∈ r, t.1 ∈ (moved (-m) f).map (·.1) := N.sub fun e he => by
    have z : cf (moved (-m) f) e = 0 := cf_out he
    rw [cf_moved, show e - -m = e + m by omega] at z
    show cf f (e + m) * -1 % q = 0
    rw [z]
    rfl
  have ht : turnsOf q r = turnsOf q f := by
    rw [← turns_mv (m := -m) f, turns_on hq N.asc nm.nodup sub, turns_on hq nm.asc nm.nodup (fun t ht => List.mem_map_of_mem ht)]
    refine sum_eq2 _ fun x _ => ?_
    obtain ⟨a0, a1⟩ := cf_in hq nf (x + m)
    rw [N.cof, cf_moved, show x - -m = x + m by omega]
    exact ft_neg a0 a1
  have ef := endsOf f m
  have er : Ends2 r (-m) (lo f m - m) (hi f m - m) := by
    obtain ⟨a1, a2, a3, a4, a5, a6⟩ := ef
    have pl : ∀ t ∈ r, ∃ u ∈ f, u.1 - m = t.1 := fun t h => by
      obtain ⟨x, hx, e⟩ := List.mem_map.mp (sub t h)
      obtain ⟨u, hu, rfl⟩ := List.mem_map.mp hx
      exact ⟨u, hu, by have e : u.1 + -m = t.1 := e; omega⟩
    refine ⟨by omega, by omega, by omega, by omega, fun t h => ?_, fun t h => ?_⟩
    · obtain ⟨u, hu, e⟩ := pl t h
      have := a5 u hu
      omega
    · obtain ⟨u, hu, e⟩ := pl t h
      have := a6 u hu
      omega
  obtain ⟨c1, c2⟩ := ends_in er
  unfold lenE absI
  rw [ht]
  repeat' split
  all_goals omega
theorem lenE_inv {q m : Int} {f r : Pol} {F : Int → Int} (hq : 0 < q) (nf : Nf q f F) (N : Nf q r (fun e => cf f (e + m) * -1)) : lenE q r (-m) = lenE q f m := by
  have h1 := len_inv1 hq nf N
  have N2 : Nf q f (fun e => cf r (e + -m) * -1) := nf.self.to fun e => by
    rw [N.cof, show e + -m + m = e by omega, Int.mul_emod (cf f e * -1 % q), Int.emod_emod, ← Int.mul_emod]
    congr 1
    omega
  have h2 := len_inv1 hq N.self N2
  rw [Int.neg_neg] at h2
  omega
/-! ### only the identity has no length -/
theorem turns_nn {q : Int} : ∀ {f : Pol}, (∀ t ∈ f, 0 < t.2 ∧ t.2 < q) → (f.length : Int) ≤ turnsOf q f
  | [], _ => Int.le_refl _
  | t :: r, h => by
    have h1 := turns_nn fun u hu => h u (List.mem_cons_of_mem _ hu)
    have h2 := ft_pos (h t List.mem_cons_self).1 (h t List.mem_cons_self).2
    have e : turnsOf q (t :: r) = ft q t.2 + turnsOf q r := rfl
    rw [e, List.length_cons]
    omega
theorem len_nn {q m : Int} {f : Pol} (h : ∀ t ∈ f, 0 < t.2 ∧ t.2 < q) : 0 ≤ lenE q f m ∧ (lenE q f m = 0 ↔ f = [] ∧ m = 0) := by
  have e := endsOf f m
  have t := turns_nn h
  have := e.l0; have := e.lm; have := e.h0; have := e.hm
  have low : absI m + (f.length : Int) ≤ lenE q f m := by
    unfold lenE absI
    split <;> omega
  have ab : 0 ≤ absI m ∧ (absI m = 0 → m = 0) := by
    unfold absI
    split <;> omega
  refine ⟨by omega, fun z => ?_, fun ⟨a, b⟩ => ?_⟩
  · have : f.length = 0 := by omega
    exact ⟨List.length_eq_zero_iff.mp this, ab.2 (by omega)⟩
  · rw [a, b]
    rfl
/-! ### programs of steps and turns -/
/-- the units that a program makes -/
def costP (b : List Ins) : Int := (b.map fun i => ((cntOf i).natAbs : Int)).sum
theorem ft_abs {q c : Int} (hq : 0 < q) : ft q (c % q) ≤ (c.natAbs : Int) := by
  have h0 := Int.emod_nonneg c (show q ≠ 0 by omega)
  have h1 := Int.emod_lt_of_pos c hq
  have e := Int.emod_add_mul_ediv c q
  unfold ft
  by_cases hc : 0 ≤ c
  · have hd : 0 ≤ c / q := Int.ediv_nonneg hc (by omega)
    have : 0 ≤ q * (c / q) := Int.mul_nonneg (by omega) hd
    split <;> omega
  · have hd : c / q ≤ -1 := by
      have := Int.ediv_neg_of_neg_of_pos (show c < 0 by omega) hq
      omega
    have : q * (c / q) ≤ q * -1 := Int.mul_le_mul_of_nonneg_left hd (by omega)
    split <;> omega
theorem len_step (q c : Int) : lenE q [] c = (c.natAbs : Int) := by
  have e := endsOf ([] : Pol) c
  have e2 := ends_in (f := []) (m := c) (a := min 0 c) (b := max 0 c) ⟨by omega, by omega, by omega, by omega, fun t h => absurd h List.not_mem_nil, fun t h => absurd h List.not_mem_nil⟩
  have := e.l0; have := e.lm; have := e.h0; have := e.hm
  have z : turnsOf q [] = 0 := rfl
  unfold lenE absI
  rw [z]
  split <;> omega
theorem len_turn {q c : Int} {f : Pol} (hq : 0 < q) (N : Nf q f (fun x => if x = 0 then c else 0)) : lenE q f 0 ≤ (c.natAbs : Int) := by
  have at0 : ∀ t ∈ f, t.1 ∈ [(0 : Int)] := N.sub fun e he => by
    have : e ≠ 0 := fun z => he (by rw [z]; exact List.mem_cons_self)
    show (if e = 0 then c else 0) % q = 0
    rw [if_neg this]
    rfl
  have ht : turnsOf q f = ft q (c % q) := by
    rw [turns_on hq N.asc (L := [0]) (by simp) at0]
    show ft q (cf f 0) + 0 = _
    rw [N.cof, Int.add_zero]
    rfl
  have e2 := ends_in (f := f) (m := 0) (a := 0) (b := 0) ⟨Int.le_refl _, Int.le_refl _, Int.le_refl _, Int.le_refl _, fun t h => by have := List.mem_singleton.mp (at0 t h); omega, fun t h => by have := List.mem_singleton.mp (at0 t h); omega⟩
  have e := endsOf f 0
  have := e.l0; have := e.h0
  have := ft_abs (c := c) hq
  unfold lenE absI
  rw [ht]
  split <;> omega
/-- no program is shorter than the length of its effect -/
theorem len_prog {q : Int} (hq : 0 < q) : ∀ (b : List Ins), (∀ i ∈ b, isFlat i) → (∃ g, Nf q g (seP b)) ∧ ∀ g, Nf q g (seP b) → lenE q g (shP b) ≤ costP b
  | [], _ => by
    have N0 : Nf q [] (seP []) := ⟨List.Pairwise.nil, fun t h => absurd h List.not_mem_nil, fun e => by rw [seP_nil]; exact (Int.zero_emod _).symm⟩
    refine ⟨⟨[], N0⟩, fun g N => ?_⟩
    have e : g = [] := N.uniq N0 fun x => rfl
    rw [e, shP_nil, len_step]
    exact Int.le_refl _
  | i :: r, h => by
    obtain ⟨⟨g2, N2⟩, ih⟩ := len_prog hq r fun j hj => h j (List.mem_cons_of_mem _ hj)
    have fi := h i List.mem_cons_self
    have one : ∃ f, Nf q f (seI i) ∧ lenE q f (shI i) ≤ ((cntOf i).natAbs : Int) := by
      cases i with
      | step c => exact ⟨[], ⟨List.Pairwise.nil, fun t h => absurd h List.not_mem_nil, fun e => by rw [seI]; exact (Int.zero_emod _).symm⟩, by rw [shI, len_step]; exact Int.le_refl _⟩
      | turn c =>
        obtain ⟨f, N⟩ := nf_ex hq [(0, c)]
        have N' : Nf q f (fun x => if x = 0 then c else 0) := N.to fun e => by
          rw [cf_cons, cf_nil, Int.add_zero]
          by_cases z : e = 0
          · rw [if_pos z, if_pos z.symm]
          · rw [if_neg z, if_neg fun y => z y.symm]
        refine ⟨f, N'.to fun e => by rw [seI], ?_⟩
        rw [shI]
        exact len_turn hq N'
      | rep n b => exact absurd fi (by intro z; cases z)
    obtain ⟨f, Nf1, l1⟩ := one
    have mk : ∀ e, (cf f e + cf g2 (e - shI i)) % q = seP (i :: r) e % q := fun e => by
      rw [seP_cons, Nf1.cof, N2.cof]
      simp only [Int.emod_add_emod, Int.add_emod_emod]
    have c1 : costP (i :: r) = ((cntOf i).natAbs : Int) + costP r := by
      unfold costP
      rw [List.map_cons, List.sum_cons]
    have s1 : shP (i :: r) = shI i + shP r := shP_cons i r
    refine ⟨?_, fun g N => ?_⟩
    · obtain ⟨g, N⟩ := nf_ex hq (f ++ moved (shI i) g2)
      exact ⟨g, N.to fun e => by rw [cf_append, cf_moved]; exact mk e⟩
    · have := len_add2 (n := shP r) hq Nf1 N2 (N.to fun e => (mk e).symm)
      have := ih g2 N2
      rw [s1, c1]
      omega
/-- as long as its unit instructions are many -/
theorem cost_units : ∀ {b : List Ins}, (∀ i ∈ b, IsUnit i) → costP b = (b.length : Int)
  | [], _ => rfl
  | i :: r, h => by
    have h1 := cost_units fun j hj => h j (List.mem_cons_of_mem _ hj)
    have h2 : (cntOf i).natAbs = 1 := by
      rcases h i List.mem_cons_self with e | e | e | e <;> rw [e] <;> rfl
    unfold costP at h1 ⊢
    rw [List.map_cons, List.sum_cons, h1, h2, List.length_cons]
    omega
theorem unit_flat {i : Ins} (h : IsUnit i) : isFlat i := by
  rcases h with e | e | e | e <;> rw [e] <;> trivial
end DR
namespace DR
open PySem PySem.Spec PyProof.Rows L2
/-! ### three keywords, in the other order -/
def sw3 {α : Type} : List α → List α → List α
  | [], [a, b, c] => [c, b, a]
  | _, _ => []
theorem sw3_rel {vs : List V} {us : List Value} {zs : List V} {ws : List Value} (h : Vals vs us) (h2 : Vals zs ws) : Vals (sw3 vs zs) (sw3 us ws) := by
  cases h with
  | nil =>
    cases h2 with
    | nil => exact .nil
    | cons a t =>
      cases t with
      | nil => exact .nil
      | cons b t2 =>
        cases t2 with
        | nil => exact .nil
        | cons c t3 =>
          cases t3 with
          | nil => exact .cons c (.cons b (.cons a .nil))
          | cons _ _ => exact .nil
  | cons _ _ =>
    cases h2 with
    | nil => exact .nil
    | cons a t => exact .nil
structure CalW3 (P : Program) (w : World) (K : PySem.W.Frag) (mg : Str → Option Value) (base : Heap) (k : Nat) (x : Str) (k1 k2 k3 : Str) (sp : Sp) : Prop where
  ex : ∃ (f : Addr) (fd : FuncData), FnOk P w K mg base CX0 k f fd [k3, k2, k1] sp ∧ mg x = some (.ref f) ∧ PySem.W.keepIn K (.ref f) = true ∧ KBinds K fd [k3, k2, k1] [k1, k2, k3] sw3 sw3
theorem calw3_of {P : Program} {w : World} {K : PySem.W.Frag} {mg : Str → Option Value} {base : Heap} {k : Nat} {x k1 k2 k3 : Str} {st : Stmt} {sp : Sp} (D : Df K mg x st)
    (b : ∀ (kV doc pm : Value) (an : Option Addr) (cdv ct : Value) (u v z : Value), bindArgs (PySem.W.fnOf x x (defArgs st) (defBody st) (defScope st) .none kV doc pm an cdv ct) ⟨[], [(k1, u), (k2, v), (k3, z)]⟩ = pure [(k3, z), (k2, v), (k1, u)])
    (ok : ∀ f fd, Fun K x x st f fd → FnOk P w K mg base CX0 k f fd [k3, k2, k1] sp) : CalW3 P w K mg base k x k1 k2 k3 sp := by
  obtain ⟨f, fd, F, hm, kp⟩ := D.ex
  refine ⟨f, fd, ok f fd F, hm, kp, ⟨fun s us ws _ hl => ?_, sw3_rel⟩⟩
  obtain ⟨_, _, kV, doc, pm, an, cdv, ct, _, rfl, _⟩ := F.ex
  match us, ws, hl with
  | [], [u, v, z], _ => exact .of_eq (b kV doc pm an cdv ct u v z)
theorem pe_cw3 {X : Cx} {k j : Nat} {x k1 k2 k3 : Str} {sp : Sp} {p pos : Pos} {kws : List Keyword} {tk : TA} (c : CalW3 X.prog X.w X.K X.mg X.base k x k1 k2 k3 sp) (hr : Room j X.A) (hk : k ≤ j) (hg : Gl X x) (hkw : PK X kws tk)
    (said : KwsAre pos kws X.env [k1, k2, k3] := by exact ⟨rfl, rfl, rfl⟩) (hdb : (x == ("__debug__" : Str)) = false := by decide) :
    PE X (.Call (.Name x p) [] kws pos) (tCallK sp sw3 E0 tNil tk) := by
  obtain ⟨f, fd, F, hm, kp, b⟩ := c.ex
  exact pe_callK0 F (hr.mono hk) hg hm kp b pass0 hkw said hdb
/-! ### whether two effects are one -/
theorem eqv_prs : ∀ (f g : Pol), PyData.eqvAll (f.map pr) (g.map pr) = decide (f = g)
  | [], [] => rfl
  | [], _ :: _ => rfl
  | _ :: _, [] => rfl
  | (a, b) :: f, (c, d) :: g => by
    show ((decide (a = c) && (decide (b = d) && true)) && PyData.eqvAll (f.map pr) (g.map pr)) = _
    rw [eqv_prs f g]
    by_cases h1 : a = c <;> by_cases h2 : b = d <;> by_cases h3 : f = g <;> simp [h1, h2, h3]
theorem eqv_ed (f g : Pol) (m n : Int) : PyData.eqv (ed f m) (ed g n) = decide (f = g ∧ m = n) := by
  show (PyData.eqvAll (f.map pr) (g.map pr) && (decide (m = n) && true)) = _
  rw [eqv_prs]
  by_cases h1 : f = g <;> by_cases h2 : m = n <;> simp [h1, h2]
def sp_commute (K : PySem.W.Frag) : Sp := fun vs H Q _ => ∃ (p : Int) (v1 v2 : V) (f g : Pol) (m n : Int), vs = [.int p, v1, v2] ∧ 0 < p ∧ TEff K H v1 f m ∧ TEff K H v2 g n ∧ f.length + g.length ≤ 100000 ∧
  ∀ H' r1 r2, Same H H' → Nf p r1 (fun e => cf f e + cf g (e - m)) → Nf p r2 (fun e => cf g e + cf f (e - n)) → Q (.bl (decide (r1 = r2))) H'
def sp__law_small_effect (K : PySem.W.Frag) : Sp := fun vs H Q _ => ∃ (p c : Addr) (q terms reach most : Int) (n : Nat), vs = [.ref p, .int q, .int terms, .int reach, .int most] ∧ 2 ≤ q ∧ q ≤ 97 ∧ 0 ≤ terms ∧ terms ≤ 1000 ∧ 0 ≤ reach ∧ reach.natAbs < 10 ^ 90 ∧ 0 ≤ most ∧ most.natAbs < 10 ^ 90 ∧ PenAt H p c n ∧ n < 2 ^ 38 ∧
  ∀ v H' g sh, Kp p H H' → PenAt H' p c (n + 2 * terms.toNat + 3) → TEff K H' v g sh → Drawn q g terms.toNat reach → sh.natAbs ≤ most.natAbs → Q v H'
end DR
namespace DR
open PySem PySem.Spec PyProof.Rows L2
/-! ### one unit more, and the length -/
/-- the length is no less than the turns -/
theorem turns_le_len (q : Int) (f : Pol) (m : Int) : turnsOf q f ≤ lenE q f m := by
  have e := endsOf f m
  have := e.l0; have := e.lm; have := e.h0; have := e.hm
  unfold lenE absI
  split <;> omega
/-- an effect of few units has few terms -/
theorem terms_le {q : Int} {b : List Ins} {g : Pol} (hq : 0 < q) (fl : ∀ i ∈ b, isFlat i) (N : Nf q g (seP b)) : (g.length : Int) ≤ costP b :=
  Int.le_trans (turns_nn N.rng) (Int.le_trans (turns_le_len q g (shP b)) ((len_prog hq b fl).2 g N))
theorem cost_le {R : Nat} : ∀ {b : List Ins}, (∀ i ∈ b, (cntOf i).natAbs ≤ R) → costP b ≤ ((b.length * R : Nat) : Int)
  | [], _ => by simp [costP]
  | i :: r, h => by
    have h1 := cost_le fun j hj => h j (List.mem_cons_of_mem _ hj)
    have h2 := h i List.mem_cons_self
    unfold costP at h1 ⊢
    rw [List.map_cons, List.sum_cons, List.length_cons, Nat.add_mul, Nat.one_mul]
    omega
theorem len_par (q : Int) (f : Pol) (m : Int) : ∃ k : Int, lenE q f m = 2 * k - absI m + turnsOf q f := ⟨_, rfl⟩
theorem nf_empty (q : Int) : Nf q [] (cf []) := ⟨List.Pairwise.nil, fun t h => absurd h List.not_mem_nil, fun _ => (Int.zero_emod _).symm⟩
/-- a step more or less -/
theorem step_len {q m c : Int} {f r : Pol} {F : Int → Int} (hq : 0 < q) (nf : Nf q f F) (hc : c = 1 ∨ c = -1) (N : Nf q r (fun e => cf f e + cf [] (e - m))) : lenE q r (m + c) - lenE q f m = 1 ∨ lenE q r (m + c) - lenE q f m = -1 := by
  have e1 : r = f := by
    refine N.uniq nf fun e => ?_
    rw [cf_nil, Int.add_zero, nf.cof, Int.emod_emod]
  subst e1
  have a1 := len_add2 (n := c) hq nf (nf_empty q) N
  have N2 : Nf q r (fun e => cf r e + cf [] (e - (m + c))) := nf.to fun e => by
    rw [cf_nil, Int.add_zero, nf.cof]
    exact (Int.emod_emod _ _).symm
  have a2 := len_add2 (m := m + c) (n := -c) hq nf (nf_empty q) N2
  rw [len_step] at a1 a2
  rw [show m + c + -c = m by omega] at a2
  obtain ⟨k1, e1⟩ := len_par q r m
  obtain ⟨k2, e2⟩ := len_par q r (m + c)
  unfold absI at e1 e2
  rcases hc with rfl | rfl <;> split at e1 <;> split at e2 <;> omega
/-- the polynomial of one turn -/
theorem nf_turn {q c : Int} (h0 : 0 < c) (h9 : c < q) {d : Int} (hd : c = d % q) : Nf q [(0, c)] (fun x => if x = 0 then d else 0) := by
  refine ⟨List.pairwise_singleton _ _, fun t ht => ?_, fun e => ?_⟩
  · cases List.mem_singleton.mp ht
    exact ⟨h0, h9⟩
  · rw [cf_cons, cf_nil, Int.add_zero]
    by_cases z : e = 0
    · rw [if_pos z.symm, if_pos z]
      exact hd
    · rw [if_neg fun y => z y.symm, if_neg z, Int.zero_emod]
/-- a turn more or less -/
theorem turn_len {q m c : Int} {f r : Pol} {F : Int → Int} (hq : 2 ≤ q) (nf : Nf q f F) (hc : c = 1 ∨ c = q - 1) (N : Nf q r (fun e => cf f e + cf [(0, c)] (e - m))) : lenE q r m - lenE q f m = 1 ∨ lenE q r m - lenE q f m = 0 ∨ lenE q r m - lenE q f m = -1 := by
  have neg1 : q - 1 = -1 % q := by
    rw [← Int.add_emod_right (-1) q, Int.emod_eq_of_lt (by omega) (by omega)]
    omega
  have pos1 : (1 : Int) = 1 % q := (Int.emod_eq_of_lt (by omega) (by omega)).symm
  obtain ⟨d, hd, hd1⟩ : ∃ d : Int, c = d % q ∧ d.natAbs = 1 := by
    rcases hc with rfl | rfl
    · exact ⟨1, pos1, rfl⟩
    · exact ⟨-1, neg1, rfl⟩
  obtain ⟨c', h0', h9', hd'⟩ : ∃ c' : Int, 0 < c' ∧ c' < q ∧ c' = -d % q := by
    rcases Int.natAbs_eq d with e | e <;> rw [hd1] at e
    · exact ⟨q - 1, by omega, by omega, by rw [e]; exact neg1⟩
    · exact ⟨1, by omega, by omega, by rw [e]; exact pos1⟩
  have h0 : 0 < c ∧ c < q := by rcases hc with rfl | rfl <;> omega
  have T := nf_turn h0.1 h0.2 hd
  have T' := nf_turn h0' h9' hd'
  have a1 := len_add2 (n := 0) (by omega) nf T N
  have l1 := len_turn (by omega) T
  have N2 : Nf q f (fun e => cf r e + cf [(0, c')] (e - m)) := nf.to fun e => by
    rw [N.cof, T.cof, T'.cof]
    rw [nf.cof]
    simp only [Int.emod_add_emod, Int.add_emod_emod]
    by_cases z : e - m = 0
    · rw [if_pos z, if_pos z]
      congr 1
      omega
    · rw [if_neg z, if_neg z]
      congr 1
      omega
  have a2 := len_add2 (n := 0) (by omega) N T' N2
  have l2 := len_turn (by omega) T'
  have hn : (-d).natAbs = 1 := by omega
  rw [hd1] at l1
  rw [hn] at l2
  rw [Int.add_zero] at a1 a2
  omega
/-- the four unit effects -/
def Units4 (K : PySem.W.Frag) (H : Hp) (p : Int) (xs : List V) : Prop := ∃ a b c d, xs = [a, b, c, d] ∧ TEff K H a [] 1 ∧ TEff K H b [] (-1) ∧ TEff K H c [(0, 1)] 0 ∧ TEff K H d [(0, p - 1)] 0
theorem Units4.tp {K : PySem.W.Frag} {H H' : Hp} {p : Int} {xs : List V} (t : Tp H H') (h : Units4 K H p xs) : Units4 K H' p xs := by
  obtain ⟨a, b, c, d, e, h1, h2, h3, h4⟩ := h
  exact ⟨a, b, c, d, e, h1.tp t, h2.tp t, h3.tp t, h4.tp t⟩
theorem Units4.each {K : PySem.W.Frag} {H : Hp} {p : Int} {xs : List V} {j : Nat} {x : V} (h : Units4 K H p xs) (hx : xs[j]? = some x) : (∃ c, (c = 1 ∨ c = -1) ∧ TEff K H x [] c) ∨ ∃ c, (c = 1 ∨ c = p - 1) ∧ TEff K H x [(0, c)] 0 := by
  obtain ⟨a, b, c, d, rfl, h1, h2, h3, h4⟩ := h
  match j, hx with
  | 0, e => cases e; exact .inl ⟨1, .inl rfl, h1⟩
  | 1, e => cases e; exact .inl ⟨-1, .inr rfl, h2⟩
  | 2, e => cases e; exact .inr ⟨1, .inl rfl, h3⟩
  | 3, e => cases e; exact .inr ⟨p - 1, .inr rfl, h4⟩
def sp__law_units (K : PySem.W.Frag) : Sp := fun vs H Q _ => ∃ (p : Int), vs = [.int p] ∧ ∀ D xs H', H D = none → Same H H' → H' D = some (.lst xs) → Units4 K H' p xs → Q (.ref D) H'
def sp__law_unit_word (K : PySem.W.Frag) : Sp := fun vs H Q _ => ∃ (p c : Addr) (many : Int) (n : Nat), vs = [.ref p, .int many] ∧ 0 ≤ many ∧ many ≤ 1000 ∧ PenAt H p c n ∧ n < 2 ^ 39 ∧
  ∀ D xs b H', Kp p H H' → PenAt H' p c (n + 3 * many.toNat + 1) → H' D = some (.lst xs) → FIs K H' xs b → (∀ i ∈ b, IsUnit i) → b.length ≤ 3 * many.toNat → Q (.ref D) H'
def sp__law_steps_right (K : PySem.W.Frag) : Sp := fun vs H Q _ => ∃ (p : Int) (v : V) (f : Pol) (m : Int) (F : Int → Int), vs = [.int p, v] ∧ 2 ≤ p ∧ TEff K H v f m ∧ Nf p f F ∧ f.length ≤ 10000 ∧ ∀ H', Same H H' → Q (.bl true) H'
theorem none_before {H H' : Hp} {D : Addr} (s : Same H H') (h : H' D = none) : H D = none := by
  cases e : H D with
  | none => rfl
  | some o =>
    have z := s _ _ e
    rw [h] at z
    cases z
theorem pen_nl {H : Hp} {p c L : Addr} {n : Nat} {xs : List V} (pen : PenAt H p c n) (h : H L = some (.lst xs)) : L ≠ p := fun e => by
  obtain ⟨kvs, z⟩ := pen.dict
  rw [e, z] at h
  cases h
theorem paired_app {α β : Type} {R : α → β → Prop} : ∀ {xs ys : List α} {a b : List β}, Paired R xs a → Paired R ys b → Paired R (xs ++ ys) (a ++ b)
  | _, _, _, _, .nil, h => h
  | _, _, _, _, .cons r t, h => .cons r (paired_app t h)
theorem paired_rep {α β : Type} {R : α → β → Prop} {x : α} {b : β} (h : R x b) : ∀ k : Nat, Paired R (List.replicate k [x]).flatten (List.replicate k b)
  | 0 => .nil
  | k + 1 => by
    rw [List.replicate_succ, List.replicate_succ, List.flatten_cons]
    exact .cons h (paired_rep h k)
theorem fi_at {K : PySem.W.Frag} {H : Hp} : ∀ {ys : List V} {u : List Ins} {j : Nat} {x : V}, FIs K H ys u → ys[j]? = some x → ∃ i, u[j]? = some i ∧ FI K H x i
  | _, _, _, _, .nil, e => nomatch e
  | _, _, 0, _, .cons r _, e => by
    cases e
    exact ⟨_, rfl, r⟩
  | _, _, j + 1, _, .cons _ q, e => fi_at (j := j) q e
/-- [an int for word, count in a list of steps and turns] -/
theorem lcFI {K : PySem.W.Frag} {a : Addr} {xs : List V} {b : List Ins} {σ : L2.St} {H : Hp} {vs : List Nat} {i j : Nat} {te tv : TE} {Q : VK} (G : Int → Int) (hv : ∀ R : VK, R (.ref a) H → tv σ H R) (hs : H a = some (.lst xs)) (hF : FIs K H xs b) (hl : b.length ≤ 100000)
    (hw : ∀ x y, wipe (((wipe σ vs).set i (some x)).set j (some y)) vs = wipe σ vs)
    (he : ∀ (x : Str) (c : Int) H2, ∀ R : VK, R (.int (G c)) H2 → te (((wipe σ vs).set i (some (.str x))).set j (some (.int c))) H2 R)
    (k : ∀ D H2, H D = none → Same H H2 → H2 D = some (.lst ((b.map fun t => G (cntOf t)).map V.int)) → Q (.ref D) H2) : tLc (iList K tv) (gTup K 2 (gCons (gName i) (gCons (gName j) gNil))) tYes te vs σ H Q := by
  refine hv _ ⟨a, rfl, ⟨_, SqL.of hs⟩, fun D nD => lc_list (K := K) (a := a) (xs := xs) (fun m H2 => Same H H2 ∧ H2 D = some (.lst (((b.take m).map fun t => G (cntOf t)).map V.int))) ⟨same_new nD, upd_same⟩ (fun m H2 _ g => SqL.of (g.1 _ _ hs)) ?_ ?_⟩
  · rintro m x H2 hm ⟨s2, h2⟩
    obtain ⟨t, ht, hx⟩ := fi_at hF hm
    have hm2 : m < b.length := (List.getElem?_eq_some_iff.mp ht).1
    have room : (((b.take m).map fun t => G (cntOf t)).map V.int).length < sizeLine := sl_lt (by rw [List.length_map, List.length_map, List.length_take]; omega)
    have grow : (b.take (m + 1)).map (fun t => G (cntOf t)) = (b.take m).map (fun t => G (cntOf t)) ++ [G (cntOf t)] := by
      rw [take_snoc ht, List.map_append]
      rfl
    have last : ∀ c, cntOf t = c → Same H (upd H2 D (.lst ((((b.take m).map fun t => G (cntOf t)).map V.int) ++ [.int (G c)]))) ∧ upd H2 D (.lst ((((b.take m).map fun t => G (cntOf t)).map V.int) ++ [.int (G c)])) D = some (.lst (((b.take (m + 1)).map fun t => G (cntOf t)).map V.int)) := fun c hc => by
      refine ⟨same_mut s2 nD, ?_⟩
      rw [upd_same, grow, List.map_append, hc]
      rfl
    rcases hx with ⟨e, c, rfl, hq, rfl⟩ | ⟨e, c, rfl, hq, rfl⟩
    all_goals
      refine ⟨e, _, rfl, same_t s2 hq, rfl, _, _, rfl, _, _, rfl, rfl, hw _ _, ?_⟩
      dsimp only [tYes]
      rw [if_pos rfl]
      exact he _ c H2 _ ⟨_, h2, room, last c rfl⟩
  · rintro H2 ⟨s2, h2⟩
    rw [hF.len, List.take_length] at h2
    exact k D H2 nD s2 h2
end DR
namespace DR
open PySem PySem.Spec PyProof.Rows L2
theorem TEff.same {K : PySem.W.Frag} {H H' : Hp} {v : V} {f : Pol} {n : Int} (s : Same H H') (h : TEff K H v f n) : TEff K H' v f n := h.tp (Same.tp s)
theorem pw_bd {q m c : Int} {f r : Pol} (N : Nf q r (fun e => pwF (cf f) m c e)) {A B : Nat} (hf : ∀ t ∈ f, t.1.natAbs ≤ A) (hB : c.natAbs * m.natAbs ≤ B) : ∀ t ∈ r, t.1.natAbs ≤ A + B :=
  N.subP (R := fun e => e.natAbs ≤ A + B) fun e he => by
    rw [pw_far c fun k hk => ?_]
    · exact Int.zero_emod _
    · refine cf_none f _ fun u hu z => he ?_
      have h1 := hf u hu
      have h2 : (k * m).natAbs ≤ c.natAbs * m.natAbs := by
        rw [Int.natAbs_mul]
        exact Nat.mul_le_mul_right _ hk
      have h4 : e = u.1 + k * m := by omega
      rw [h4]
      generalize k * m = km at h2
      omega
theorem inv_bd {q m : Int} {f r : Pol} (N : Nf q r (fun e => cf f (e + m) * -1)) {A B : Nat} (hf : ∀ t ∈ f, t.1.natAbs ≤ A) (hB : m.natAbs ≤ B) : ∀ t ∈ r, t.1.natAbs ≤ A + B :=
  N.subP (R := fun e => e.natAbs ≤ A + B) fun e he => by
    show cf f (e + m) * -1 % q = 0
    rw [cf_none f (e + m) fun u hu z => he (by have := hf u hu; omega), Int.zero_mul]
    exact Int.zero_emod _
theorem inv_len {q m : Int} {f r : Pol} (N : Nf q r (fun e => cf f (e + m) * -1)) : r.length ≤ f.length := by
  have := N.len (L := f.map fun t => t.1 - m) fun e he => by
    show cf f (e + m) * -1 % q = 0
    rw [cf_none f (e + m) fun u hu z => he (List.mem_map.mpr ⟨u, hu, by omega⟩), Int.zero_mul]
    exact Int.zero_emod _
  rw [List.length_map] at this
  exact this
/-- a factor beside one that reaches over 0 lies within -/
theorem fac_bd {p : Int} (hp : p ∈ primes) {q g f : Pol} (nq : Nf p q (cf q)) (ng : Nf p g (cf g)) (h0 : cf g 0 ≠ 0) (he : ∀ e, conv q (cf g) e % p = cf f e % p) {A : Nat} (hf : ∀ t ∈ f, t.1.natAbs ≤ A) : ∀ t ∈ q, t.1.natAbs ≤ A := by
  intro t ht
  obtain ⟨z, hz, hz0⟩ := cf_ne h0
  have hgn : g ≠ [] := fun e => by rw [e] at hz; cases hz
  obtain ⟨g0, dg, lead, hg⟩ := ne_snoc hgn
  obtain ⟨u, g1, hg1⟩ : ∃ u g1, g = u :: g1 := by
    cases g with
    | nil => exact absurd rfl hgn
    | cons u g1 => exact ⟨u, g1, rfl⟩
  have hqn : q ≠ [] := fun e => by rw [e] at ht; cases ht
  obtain ⟨q0, dq, cq, hq⟩ := ne_snoc hqn
  obtain ⟨w, q1, hq1⟩ : ∃ u g1, q = u :: g1 := by
    cases q with
    | nil => exact absurd rfl hqn
    | cons u g1 => exact ⟨u, g1, rfl⟩
  have hu0 : u.1 ≤ 0 := by
    have a := ng.asc
    rw [hg1] at a
    rw [← hz0]
    exact asc_le a (by rw [← hg1]; exact hz)
  have hd0 : 0 ≤ dg := by
    have a := ng.asc
    rw [hg] at a
    rw [← hz0]
    exact asc_last a z (by rw [← hg]; exact hz)
  have b1 : cf f (w.1 + u.1) ≠ 0 := fun e0 => by
    have e1 := he (w.1 + u.1)
    rw [e0, hq1, hg1, conv_least (t := w) (u := u) (by rw [← hq1]; exact nq.asc) (by rw [← hg1]; exact ng.asc)] at e1
    exact prime_nz hp (nq.rng w (by rw [hq1]; simp)).1 (nq.rng w (by rw [hq1]; simp)).2 (ng.rng u (by rw [hg1]; simp)).1 (ng.rng u (by rw [hg1]; simp)).2 (e1.trans (Int.zero_emod _))
  have b2 : cf f (dq + dg) ≠ 0 := fun e0 => by
    have e1 := he (dq + dg)
    have ah := nq.asc
    have ag := ng.asc
    rw [hq] at ah
    rw [hg] at ag
    rw [e0, hq, hg, conv_great (t := (dq, cq)) (u := (dg, lead)) ah ag] at e1
    exact prime_nz hp (nq.rng (dq, cq) (by rw [hq]; simp)).1 (nq.rng (dq, cq) (by rw [hq]; simp)).2 (ng.rng (dg, lead) (by rw [hg]; simp)).1 (ng.rng (dg, lead) (by rw [hg]; simp)).2 (e1.trans (Int.zero_emod _))
  obtain ⟨t1, m1, e1⟩ := cf_ne b1
  obtain ⟨t2, m2, e2⟩ := cf_ne b2
  have h1 := hf t1 m1
  have h2 := hf t2 m2
  have h3 : w.1 ≤ t.1 := by
    have a := nq.asc
    rw [hq1] at a
    exact asc_le a (by rw [← hq1]; exact ht)
  have h4 : t.1 ≤ dq := by
    have a := nq.asc
    rw [hq] at a
    exact asc_last a t (by rw [← hq]; exact ht)
  omega
theorem rounds_zero {k : Int} (hk : k ≠ 0) : ∀ n : Nat, cf (rounds n k) 0 = if 0 < n then 1 else 0
  | 0 => rfl
  | n + 1 => by
    rw [rounds_succ, cf_append, rounds_zero hk n]
    show (if 0 < n then 1 else 0) + ((if (n : Int) * k = 0 then 1 else 0) + 0) = if 0 < n + 1 then 1 else 0
    rw [if_pos (Nat.succ_pos n)]
    by_cases z : n = 0
    · rw [z]
      simp
    · rw [if_pos (by omega), if_neg (fun y => by
        rcases Int.mul_eq_zero.mp y with h | h
        · omega
        · exact hk h)]
      rfl
/-- the normal form of 1 + t ** k + .. -/
theorem geo_ex {p : Int} (hp : 2 ≤ p) {k : Int} (hk : k ≠ 0) {n : Nat} (hn : 0 < n) : ∃ g, Nf p g (cf (rounds n k)) ∧ cf g 0 ≠ 0 := by
  obtain ⟨g, ng⟩ := nf_ex (p := p) (by omega) (rounds n k)
  refine ⟨g, ng, ?_⟩
  rw [ng.cof, rounds_zero hk, if_pos hn, Int.emod_eq_of_lt (by omega) (by omega)]
  omega
theorem IsR.bd {p : Int} (hp : p ∈ primes) {f q : Pol} {s k c : Int} (h : IsR p f s q k c) (hs : s ≠ 0) {A : Nat} (hf : ∀ t ∈ f, t.1.natAbs ≤ A) : ∀ t ∈ q, t.1.natAbs ≤ A := by
  have hpr := prime_rng p hp
  have hk := h.k0 hs
  have hc := h.pos
  obtain ⟨g, ng, h0⟩ := geo_ex hpr.1 hk (n := c.toNat) (by omega)
  refine fac_bd hp h.nf ng.self h0 (fun e => ?_) hf
  have e1 := Cm.power hp hk (by omega) h.mul h.cm e
  rw [← pw_rounds q k (by omega)] at e1
  rw [← e1]
  exact conv_mod (fun x => by rw [ng.cof, Int.emod_emod]) q e
theorem IsR.scale {p : Int} (hp : p ∈ primes) {f f' q q' : Pol} {s s' k k' c c' m : Int} (h : IsR p f s q k c) (hs : s ≠ 0) (h' : IsR p f' s' q' k' c') (hs' : s' ≠ 0) (hcm : Cm p f s f' s') (hm : s' = m * s) : c' = (m.natAbs : Int) * c ∧ (0 < m → k' = k) ∧ (m < 0 → k' = -k) := by
  have hk := h.k0 hs
  have hc := h.pos
  have hc' := h'.pos
  have e1 := h.mul
  have e2 := h'.mul
  have e3 : c' * k' = m * c * k := by rw [← e2, hm, e1, Int.mul_assoc]
  have hm0 : m ≠ 0 := fun z => hs' (by rw [hm, z, Int.zero_mul])
  rcases h.class hp hs h' hs' hcm with z | z
  · rw [z] at e3
    have e4 : c' = m * c := Int.eq_of_mul_eq_mul_right hk e3
    have hm1 : 0 < m := by
      rcases Int.lt_or_gt_of_ne hm0 with y | y
      · exfalso
        have : m * c < 0 := Int.mul_neg_of_neg_of_pos y hc
        omega
      · exact y
    exact ⟨by rw [e4, show (m.natAbs : Int) = m by omega], fun _ => z, fun y => by omega⟩
  · rw [z] at e3
    have e4 : c' = -m * c := Int.eq_of_mul_eq_mul_right (a := -k) (by omega) (by rw [e3, Int.neg_mul, Int.neg_mul_neg])
    have hm1 : m < 0 := by
      rcases Int.lt_or_gt_of_ne hm0 with y | y
      · exact y
      · exfalso
        have : 0 < m * c := Int.mul_pos y hc
        rw [Int.neg_mul] at e4
        omega
    exact ⟨by rw [e4, show (m.natAbs : Int) = -m by omega], fun y => by omega, fun _ => z⟩
/-! ### what root returns, as data -/
def rdD (q : Pol) (k c : Int) : PyData := .tuple [ed q k, .int c]
theorem rd_dp {K : PySem.W.Frag} {H : Hp} {a : Addr} {u : V} {q : Pol} {k c : Int} (h : SqT K H a [u, .int c]) (t : TEff K H u q k) : Dp K H (.ref a) (rdD q k c) := .tup h (.cons t.dp (.cons (.int _) .nil))
theorem rd_shaped (q : Pol) (k c : Int) : SeqAt.shaped (rdD q k c) = true := by
  obtain ⟨a, b⟩ := prs_lay q
  show ((((PyData.canLayAll0 (q.map pr)) && (true && true)) && (true && true)) && decide (max (max (PyData.depthAll (q.map pr) + 1) (max 0 0) + 1) (max 0 0) + 1 ≤ 64)) = true
  rw [a, decide_eq_true (by omega)]
  rfl
theorem iteRR {A B : Prop} (q : Pol) (k c : Int) (h : B) : if (!PyData.eqv (rdD q k c) (rdD q k c)) = true then A else B := by
  rw [SeqAt.eqv_refl _ (SeqAt.canLay_of_shaped (rd_shaped q k c))]
  exact iteF h
def sp__law_shifted_effect (K : PySem.W.Frag) : Sp := fun vs H Q _ => ∃ (p c : Addr) (q terms reach most : Int) (n : Nat), vs = [.ref p, .int q, .int terms, .int reach, .int most] ∧ 2 ≤ q ∧ q ≤ 97 ∧ 0 ≤ terms ∧ terms ≤ 1000 ∧ 0 ≤ reach ∧ reach.natAbs < 10 ^ 90 ∧ 0 < most ∧ most ≤ 1000 ∧ PenAt H p c n ∧ n < 2 ^ 37 ∧
  ∀ v H' g sh, Kp p H H' → PenAt H' p c (n + 2 * terms.toNat + 3) → TEff K H' v g sh → Drawn q g terms.toNat reach → sh ≠ 0 → sh.natAbs ≤ most.natAbs → Q v H'
end DR
namespace DR
open PySem PySem.Spec PyProof.Rows L2
theorem none_kp {p L : Addr} {H H' : Hp} (k : Kp p H H') (h : H' L = none) (hp : L ≠ p) : H L = none := by
  cases e : H L with
  | none => rfl
  | some o =>
    rw [k L o hp e] at h
    cases h
theorem kp_mut {p L : Addr} {H H' : Hp} {o : HO} (k : Kp p H H') (h : H L = none) : Kp p H (upd H' L o) := fun b u nb e => by
  rw [upd_ne (ne_of_none e h)]
  exact k b u nb e
theorem com_iff {p : Int} {f g r1 r2 : Pol} {m n : Int} (N1 : Nf p r1 (fun e => cf f e + cf g (e - m))) (N2 : Nf p r2 (fun e => cf g e + cf f (e - n))) : r1 = r2 ↔ Cm p f m g n := by
  refine ⟨fun h e => ?_, fun h => N1.uniq N2 fun e => ?_⟩
  · subst h
    have e1 := N1.cof e
    rw [N2.cof e] at e1
    have := sub_of_eq e1
    refine eq_of_sub ?_
    rw [show cf g e - cf g (e - m) - (cf f e - cf f (e - n)) = cf g e + cf f (e - n) - (cf f e + cf g (e - m)) by omega]
    exact this
  · have := sub_of_eq (h e)
    refine (eq_of_sub ?_).symm
    rw [show cf g e + cf f (e - n) - (cf f e + cf g (e - m)) = cf g e - cf g (e - m) - (cf f e - cf f (e - n)) by omega]
    exact this
theorem still_iff {p : Int} (hp : p ∈ primes) {h g : Pol} {m : Int} (nh : Nf p h (cf h)) : Cm p h 0 g m ↔ (h = [] ∨ m = 0) := by
  have hpr := prime_rng p hp
  refine ⟨fun c => ?_, fun c e => ?_⟩
  · by_cases z : m = 0
    · exact .inr z
    · refine .inl (nf_zero nh fun e => ?_)
      obtain ⟨k, nk⟩ := gap_ex (p := p) (by omega) m
      refine (conv_cancel hp (q := h) (f := []) nk.self (gap_ne hpr.1 z nk) (fun x => ?_) e).trans (Int.zero_emod _)
      rw [gap_conv nk, ← c x, Int.sub_zero, Int.sub_self]
      rfl
  · rcases c with rfl | rfl
    · rw [Int.sub_zero, Int.sub_self]
      rfl
    · rw [Int.sub_zero, Int.sub_self, Int.sub_self]
def sp__law_is_power (K : PySem.W.Frag) : Sp := fun vs H Q _ => ∃ (p : Int) (v1 v2 : V) (q g : Pol) (k m : Int), vs = [.int p, v1, v2] ∧ 0 < p ∧ p ≤ 97 ∧ TEff K H v1 q k ∧ TEff K H v2 g m ∧ k ≠ 0 ∧ k.natAbs < 1000 ∧ m.natAbs ≤ 1000 ∧ q.length ≤ 1000 ∧ (∀ t ∈ q, -(2 ^ 64) < t.2 ∧ t.2 < 2 ^ 64) ∧
  ∀ b H', Same H H' → (b = false → k ∣ m → ∃ r, Nf p r (fun e => pwF (cf q) k (m / k) e) ∧ r ≠ g) → (b = true → k ∣ m ∧ Nf p g (fun e => pwF (cf q) k (m / k) e)) → Q (.bl b) H'
/-- an effect among the others -/
def ItM (K : PySem.W.Frag) (q : Int) (H : Hp) (v : V) : Prop := ∃ g m, TEff K H v g m ∧ Nf q g (cf g) ∧ g.length ≤ 100 ∧ m.natAbs ≤ 40
theorem ItM.tp {K : PySem.W.Frag} {q : Int} {H H' : Hp} {v : V} (t : Tp H H') (h : ItM K q H v) : ItM K q H' v := by
  obtain ⟨g, m, h1, h2⟩ := h
  exact ⟨g, m, h1.tp t, h2⟩
def sp__law_others (K : PySem.W.Frag) : Sp := fun vs H Q _ => ∃ (p c : Addr) (q : Int) (v : V) (f : Pol) (k : Int) (n : Nat), vs = [.ref p, .int q, v] ∧ 2 ≤ q ∧ q ≤ 97 ∧ TEff K H v f k ∧ f.length ≤ 30 ∧ k.natAbs ≤ 8 ∧ (∀ t ∈ f, -(2 ^ 64) < t.2 ∧ t.2 < 2 ^ 64) ∧ PenAt H p c n ∧ n < 2 ^ 37 ∧
  ∀ D xs H', Kp p H H' → PenAt H' p c (n + 30) → H' D = some (.lst xs) → xs.length ≤ 6 → (∀ x ∈ xs, ItM K q H' x) → Q (.ref D) H'
end DR
namespace DR
open PySem PySem.Spec PyProof.Rows L2
/-! ### set(xs), xs a list of ints -/
/-- the set that set() starts from -/
abbrev set0 (w : World) : Obj := { cls := .type "set", dict := none, data := .set #[] 0 (.fresh 0 0 (!w.params.followText "set-order")) }
section
variable {P : Program} {w : World} {A : Around} {E : Value → Shared → Prop} {s : Shared}
theorem call_set_listI {l : Addr} {ws : Array Value} (ns : List Int) {Q : Value → Shared → Prop} (calm : A.handled = none) (isl : s.heap.IsList l ws) (allI : IntsAre ws.toList ns) (few : ns.length + 1 < scanBound)
    (fin : ∀ (g : Heap) (tk c : Nat), SetR w g s.heap.objs.size (fun j => decide (j ∈ ns)) c → c ≤ ns.length → (∀ b o, s.heap.get? b = some o → g.get? b = some o) → Q (.ref s.heap.objs.size) { s with heap := g, toks := tk }) :
    wpAny (model P w) A (call (.type "set") [.ref l]) Q E s := by
  have size_eq : ws.size = ns.length := by
    rw [← Array.length_toList]
    exact IntsAre.length allI
  have f1 := PySem.F.called_set.made
  have f2 := PySem.F.called_set.sub
  have f3 := PySem.F.called_set.notType
  have f4 := PySem.F.called_set.canCreate
  have f5 := PySem.F.typeCall_set_1 (.ref l)
  obtain ⟨mc, mt, f6⟩ := PySem.F.called_set.mro
  refine wpAny_call (codeAny_of_tree (show wpAny _ _ (callAny (.type "set") _) _ _ _ from ?_))
  refine wpAny_pure ⟨Code.quiet_builtin _ (by decide +kernel), codeAny_builtin PySem.F.entry_type_call (?_)⟩
  rw [Around.under_plain (weight_type_call_type "set" [Value.ref l] []) rfl]
  repeat (any_goals (first | assumption | wp_step | fail))
  refine codeAny_mono (code_set_led1 (.ref l) (Q₁ := fun v s1 => v = .ref s.heap.objs.size ∧ s1 = { s with heap := s.heap.push (set0 w) }) (E := E) ⟨rfl, rfl⟩) fun res s1 got => ?_
  cases res with
  | error e => exact got
  | ok out =>
    cases out with
    | next => exact got.elim
    | brk => exact got.elim
    | cont => exact got.elim
    | ret v =>
      obtain ⟨rfl, rfl⟩ := got
      have at0 : (s.heap.push (set0 w)).get? s.heap.objs.size = some (set0 w) := Heap.get?_push_size _ rfl
      have ty0 : Shared.TypeIs { s with heap := s.heap.push (set0 w) } (.ref s.heap.objs.size) "set" := ⟨_, at0, rfl⟩
      have f7 := PySem.F.called_set.init.lookup
      have f8 := PySem.F.called_set.init.bind (.ref s.heap.objs.size)
      repeat (any_goals (first | assumption | wp_step | fail))
      refine codeAny_mono (codeAny_call_builtin (R := wants (fun r s2 => r = .none ∧ ∃ g tk c, s2 = { s with heap := g, toks := tk } ∧ SetR w g s.heap.objs.size (fun j => decide (j ∈ ns)) c ∧ c ≤ ns.length ∧ ∀ b o, s.heap.get? b = some o → g.get? b = some o) E)
        PySem.F.called_set.init.plain PySem.F.entry_set_init (check_set_init_1 ty0 ?_)) fun res2 s2 got2 => ?_
      · obtain ⟨⟨c0, d0, a0, z0⟩, there, hcls, n0, hdat⟩ := isl
        dsimp only at hcls hdat
        subst hcls hdat
        have there1 : (s.heap.push (set0 w)).get? l = some { cls := .type "list", dict := d0, data := .seq ws n0, slots := z0 } := Heap.get?_push_of_some _ there
        have isl1 : (s.heap.push (set0 w)).IsList l ws := ⟨_, there1, rfl, n0, rfl⟩
        have g1 := PySem.F.sub_list_set
        have g2 := PySem.F.sub_list_frozenset
        have g3 : (Value.type "list" == Value.type "dict") = false := by decide
        unfold Builtin.«set.__init__» noKeywords Builtin.Frozenset.updateFrom
        generalize keep : pyIter = PI
        wp_walk
        subst keep
        refine wpAny_pyIter_list isl1 (wpAny_bind (wpAny_runValue ?_))
        have below : l < s.heap.objs.size := Heap.lt_size there
        have one : (s.heap.push (set0 w)).objs.size = s.heap.objs.size + 1 := Heap.size_push ..
        have calm3 : A.in1.in1.in1.handled = none := by simp [calm]
        refine set_update_ints ((Walks.list calm3 _ l (by rw [one]; exact Nat.ne_of_lt (Nat.lt_succ_of_lt below)) ws).toS) s.heap.objs.size (by rw [one]; exact fun z => (List.mem_cons.mp z).elim (fun e => Nat.ne_of_lt (Nat.lt_succ_self _) e) fun e => Nat.ne_of_gt below (List.mem_singleton.mp e)) ns size_eq few (fun i v hv => ?_) (ws.size - 0) 0 _ (by omega) (Nat.zero_le _) ⟨⟨_, Heap.get?_push_size _ rfl, rfl, rfl⟩, isl1.push _⟩ ?start ?done
        · have lt : i < ns.length := by
            rw [← size_eq]
            exact (Array.getElem?_eq_some_iff.mp hv).1
          obtain ⟨t, e⟩ := IntsAre.int_at allI i v (by rw [Array.getElem?_toList]; exact hv)
          rw [List.getD_eq_getElem?_getD, List.getElem?_eq_getElem lt] at e
          exact ⟨ns[i], t, List.getElem?_eq_getElem lt, e⟩
        case start => exact ⟨0, Nat.le_refl 0, setR_new_at (Heap.get?_push_of_some _ at0)⟩
        case done =>
          rintro ⟨g, gs, dr, tk, os⟩ c mv hc hS
          obtain rfl : gs = s.gens := mv.gens
          obtain rfl : dr = s.drawn := mv.drawn
          obtain rfl : os = s.os := mv.os
          rw [size_eq] at hc
          refine wpAny_pure (show wpAny _ _ (ret Value.none) _ _ _ from wpAny_pure ⟨rfl, g, tk, c, rfl, hS, hc, fun b o e => ?_⟩)
          have lt : b < s.heap.objs.size := Heap.lt_size e
          refine mv.heap b o ?_ (Heap.get?_push_of_some _ (Heap.get?_push_of_some _ e))
          rw [one]
          exact fun z => (List.mem_cons.mp z).elim (fun e => Nat.ne_of_lt lt e) fun e => Nat.ne_of_lt (Nat.lt_succ_of_lt lt) (List.mem_singleton.mp e)
      · cases res2 with
        | error e => exact got2
        | ok out2 =>
          cases out2 with
          | next => exact got2.elim
          | brk => exact got2.elim
          | cont => exact got2.elim
          | ret r =>
            obtain ⟨rfl, g, tk, c, rfl, hS, hc, hk⟩ := got2
            repeat (any_goals (first | assumption | wp_step | fail))
            exact fin g tk c hS hc hk
end
section
variable {X : Cx}
theorem cr_setI (calm : X.calm = true) : CallR X (.type "set") (fun xs H Q => ∃ (l : Addr) (ns : List Int), xs = [.ref l] ∧ SqL X.K H l (ns.map V.int) ∧ ns.length < 1000 ∧ ∀ p c, H p = none → c ≤ ns.length → Q (.ref p) (upd H p (SetO X.w p (fun j => decide (j ∈ ns)) c))) := by
  intro pins s σ H xs us Q I r h
  obtain ⟨l, ns, rfl, hl, few, q⟩ := h
  obtain ⟨u, rfl, rx⟩ := vals1 r
  cases rx
  obtain ⟨its, rv, pl, hz⟩ := I.list hl
  have hi : IntsAre its.toArray.toList ns := by
    rw [List.toList_toArray]
    exact ints_of_vals rv
  refine call_set_listI ns (I.ok.hd calm) pl.isList hi (by unfold scanBound; omega) fun g tk c hS hc hk => ?_
  exact ⟨.ref s.heap.objs.size, _, I.laid (t' := tk) hk (Nat.le_refl _) (setO_new hS), rfl, q _ c (I.hok.fresh (Nat.le_refl _)) hc⟩
end
/-- two ascending lists of the same members -/
theorem asc_mem_eq : ∀ {xs ys : List Int}, xs.Pairwise (· < ·) → ys.Pairwise (· < ·) → (∀ k, k ∈ xs ↔ k ∈ ys) → xs = ys
  | [], [], _, _, _ => rfl
  | [], y :: r, _, _, h => absurd ((h y).mpr List.mem_cons_self) List.not_mem_nil
  | x :: r, [], _, _, h => absurd ((h x).mp List.mem_cons_self) List.not_mem_nil
  | x :: r, y :: t, hx, hy, h => by
    have px := List.pairwise_cons.mp hx
    have py := List.pairwise_cons.mp hy
    have e : x = y := by
      rcases List.mem_cons.mp ((h x).mp List.mem_cons_self) with e | e
      · exact e
      · rcases List.mem_cons.mp ((h y).mpr List.mem_cons_self) with e2 | e2
        · exact e2.symm
        · have := px.1 y e2
          have := py.1 x e
          omega
    subst e
    rw [asc_mem_eq px.2 py.2 fun k => ?_]
    have := h k
    constructor
    · intro hk
      rcases List.mem_cons.mp (this.mp (List.mem_cons_of_mem _ hk)) with e | e
      · have := px.1 k hk
        omega
      · exact e
    · intro hk
      rcases List.mem_cons.mp (this.mpr (List.mem_cons_of_mem _ hk)) with e | e
      · have := py.1 k hk
        omega
      · exact e
end DR
namespace DR
open PySem PySem.Spec PyProof.Rows L2
theorem lpd_shaped (f : Pol) : SeqAt.shaped (.list (f.map pr)) = true := by
  obtain ⟨a, b⟩ := prs_lay f
  show (PyData.canLayAll0 (f.map pr) && decide (PyData.depthAll (f.map pr) + 1 ≤ 64)) = true
  rw [a, decide_eq_true (by omega)]
  rfl
theorem eqv_lnil (f : Pol) : PyData.eqv (.list (f.map pr)) (.list []) = decide (f = []) := by
  cases f with
  | nil => rfl
  | cons t r => rfl
section
variable {K : PySem.W.Frag} {H : Hp}
theorem Prs.erase : ∀ {xs : List V} {f : Pol} (k : Nat), Prs K H xs f → Prs K H (xs.eraseIdx k) (f.eraseIdx k)
  | _, _, _, .nil => .nil
  | _, _, 0, .cons _ t => t
  | _, _, k + 1, .cons h t => .cons h (Prs.erase k t)
end
theorem perm_erase : ∀ {f : Pol} {k : Nat} {t : Int × Int}, f[k]? = some t → (t :: f.eraseIdx k).Perm f
  | [], _, _, h => by simp at h
  | a :: r, 0, t, h => by
    have e : a = t := by simpa using h
    rw [e]
    exact List.Perm.refl _
  | a :: r, k + 1, t, h => by
    have h' : r[k]? = some t := by simpa using h
    show (t :: a :: r.eraseIdx k).Perm (a :: r)
    exact (List.Perm.swap a t _).trans ((perm_erase h').cons a)
theorem perm_step {g h f : Pol} {k : Nat} {t : Int × Int} (e : h[k]? = some t) (p : (g ++ h).Perm f) : ((g ++ [t]) ++ h.eraseIdx k).Perm f := by
  rw [List.append_assoc]
  exact ((perm_erase e).append_left g).trans p
def sp__law_shuffled (K : PySem.W.Frag) : Sp := fun vs H Q _ => ∃ (p c : Addr) (n : Nat) (v : V) (f : Pol), vs = [.ref p, v] ∧ (TPol K H v f ∨ LPol K H v f) ∧ f.length ≤ 1000 ∧ PenAt H p c n ∧ n < 2 ^ 38 ∧
  ∀ D ys g H', Kp p H H' → PenAt H' p c (n + f.length) → H D = none → H' D = some (.lst ys) → Prs K H' ys g → g.Perm f → Q (.ref D) H'
/-- the law's drawn pairs: numbers below a bound -/
def PsB (f : Pol) : Prop := ∀ t ∈ f, t.1.natAbs ≤ 10 ^ 31 ∧ t.2.natAbs ≤ 10 ^ 31
def sp__law_pairs1 (K : PySem.W.Frag) : Sp := fun vs H Q _ => ∃ (p c : Addr) (q : Int) (n : Nat), vs = [.ref p, .int q] ∧ 2 ≤ q ∧ q ≤ 97 ∧ PenAt H p c n ∧ n < 2 ^ 37 ∧
  ∀ D ys g H', Kp p H H' → PenAt H' p c (n + 100) → H' D = some (.lst ys) → Prs K H' ys g → g.length ≤ 16 → PsB g → Q (.ref D) H'
theorem kl_dp {K : PySem.W.Frag} {H : Hp} : ∀ ks : List Int, DpAll K H (ks.map V.int) (ks.map PyData.int)
  | [] => .nil
  | k :: r => .cons (.int k) (kl_dp r)
theorem kl_lay : ∀ ks : List Int, PyData.canLayAll0 (ks.map PyData.int) = true ∧ PyData.depthAll (ks.map PyData.int) = 0
  | [] => ⟨rfl, rfl⟩
  | k :: r => by
    obtain ⟨a, b⟩ := kl_lay r
    refine ⟨?_, ?_⟩
    · show ((PyData.int k).canLay0 && PyData.canLayAll0 (r.map PyData.int)) = true
      rw [a]
      rfl
    · show max (PyData.int k).depth (PyData.depthAll (r.map PyData.int)) = 0
      rw [b]
      rfl
theorem kl_shaped (ks : List Int) : SeqAt.shaped (.list (ks.map PyData.int)) = true := by
  obtain ⟨a, b⟩ := kl_lay ks
  show (PyData.canLayAll0 (ks.map PyData.int) && decide (PyData.depthAll (ks.map PyData.int) + 1 ≤ 64)) = true
  rw [a, b]
  rfl
theorem kl_eqv (ks : List Int) : PyData.eqv (.list (ks.map PyData.int)) (.list []) = ks.isEmpty := by
  cases ks <;> rfl
end DR
namespace DR
open PySem PySem.Spec PyProof.Rows L2
/-- [x for x in a tuple if ..], where nothing is kept -/
theorem lcNone {K : PySem.W.Frag} {a : Addr} {xs : List V} {σ : L2.St} {H : Hp} {vs : List Nat} {i : Nat} {tv te : TE} {tt : TT} {Q : VK} (hv : ∀ R : VK, R (.ref a) H → tv σ H R) (hs : SqT K H a xs) (hw : ∀ x, wipe ((wipe σ vs).set i (some x)) vs = wipe σ vs)
    (ht : ∀ x ∈ xs, ∀ H2, Same H H2 → ∀ S : Bool → Hp → Prop, (∀ H3, Same H2 H3 → S false H3) → tt ((wipe σ vs).set i (some x)) H2 S)
    (k : ∀ D H2, H D = none → Same H H2 → H2 D = some (.lst []) → Q (.ref D) H2) : tLc (iTup K tv) (gName i) tt te vs σ H Q := by
  refine hv _ ⟨a, rfl, ⟨_, hs⟩, fun D nD => lc_tup (K := K) (a := a) (xs := xs) (fun m H2 => Same H H2 ∧ H2 D = some (.lst [])) ⟨same_new nD, upd_same⟩ (fun m H2 _ g => same_t g.1 hs) ?_ ?_⟩
  · rintro m x H2 hm ⟨s2, h2⟩
    refine ⟨hw _, ht x (List.mem_of_getElem? hm) H2 s2 _ fun H3 s3 => iteF ⟨s2.trans s3, s3 _ _ h2⟩⟩
  · rintro H2 ⟨s2, h2⟩
    exact k D H2 nD s2 h2
/-- [x[0] for x in a tuple of pairs] -/
theorem lcFst {K : PySem.W.Frag} {a : Addr} {xs : List V} {f : Pol} {σ : L2.St} {H : Hp} {vs : List Nat} {i : Nat} {tv te : TE} {Q : VK} (hv : ∀ R : VK, R (.ref a) H → tv σ H R) (hs : SqT K H a xs) (hP : Prs K H xs f) (hl : f.length ≤ 100000) (hw : ∀ x, wipe ((wipe σ vs).set i (some x)) vs = wipe σ vs)
    (he : ∀ b (t : Int × Int) H2, SqT K H2 b [.int t.1, .int t.2] → ∀ R : VK, R (.int t.1) H2 → te ((wipe σ vs).set i (some (.ref b))) H2 R)
    (k : ∀ D H2, H D = none → Same H H2 → H2 D = some (.lst ((f.map (·.1)).map V.int)) → Q (.ref D) H2) : tLc (iTup K tv) (gName i) tYes te vs σ H Q := by
  refine hv _ ⟨a, rfl, ⟨_, hs⟩, fun D nD => lc_tup (K := K) (a := a) (xs := xs) (fun m H2 => Same H H2 ∧ H2 D = some (.lst (((f.take m).map (·.1)).map V.int))) ⟨same_new nD, upd_same⟩ (fun m H2 _ g => same_t g.1 hs) ?_ ?_⟩
  · rintro m x H2 hm ⟨s2, h2⟩
    obtain ⟨t, ht, b, rfl, hb⟩ := hP.get hm
    refine ⟨hw _, ?_⟩
    dsimp only [tYes]
    rw [if_pos rfl]
    refine he b t H2 (same_t s2 hb) _ ⟨_, h2, sl_lt ?_, same_mut s2 nD, ?_⟩
    · have : m < f.length := (List.getElem?_eq_some_iff.mp ht).1
      rw [List.length_map, List.length_map, List.length_take]
      omega
    · rw [upd_same, take_snoc ht, List.map_append, List.map_append]
      rfl
  · rintro H2 ⟨s2, h2⟩
    rw [hP.len, List.take_length] at h2
    exact k D H2 nD s2 h2
theorem kl_refl (ks : List Int) : PyData.eqv (.list (ks.map PyData.int)) (.list (ks.map PyData.int)) = true := SeqAt.eqv_refl _ (SeqAt.canLay_of_shaped (kl_shaped ks))
def sp__law_is_integersT (K : PySem.W.Frag) : Sp := fun vs H Q _ => ∃ (a : Addr) (ns : List Int) (n : Int), vs = [.ref a, .int n] ∧ SqT K H a (ns.map V.int) ∧ n = (ns.length : Int) ∧ ns.length ≤ 1000 ∧ ∀ H', Same H H' → Q (.bl true) H'
def sp__law_is_effectT (K : PySem.W.Frag) : Sp := fun vs H Q _ => ∃ (p : Int) (v : V) (f : Pol) (n : Int), vs = [.int p, v] ∧ TEff K H v f n ∧ Nf p f (cf f) ∧ f.length < 64 ∧ ∀ H', Same H H' → Q (.bl true) H'
def NthR (K : PySem.W.Frag) (H : Hp) (p : Int) (f : Pol) (s n : Int) (u : V) : Prop := (u = .non ∧ (s % n ≠ 0 ∨ ∀ q : Pol, ¬ Cm p f s q (s / n))) ∨ (s % n = 0 ∧ ∃ q, TEff K H u q (s / n) ∧ Nf p q (cf q) ∧ Cm p f s q (s / n))
def sp__law_nth (K : PySem.W.Frag) : Sp := fun vs H Q _ => ∃ (p : Int) (v : V) (f : Pol) (s n : Int) (N : Nat), vs = [.int p, v, .int n] ∧ p ∈ primes ∧ TEff K H v f s ∧ Nf p f (cf f) ∧ s ≠ 0 ∧ 0 < n ∧ n < 1000 ∧ (∀ t ∈ f, ∀ u ∈ f, t.1 - u.1 < (N : Int)) ∧ 2 * s.natAbs < N ∧ N ≤ 900 ∧ ∀ u H', Same H H' → NthR K H' p f s n u → Q u H'
def sp__law_still_right (K : PySem.W.Frag) : Sp := fun vs H Q _ => ∃ (p : Int) (v w : V) (f : Pol) (n : Int), vs = [.int p, v, .int n, w] ∧ 2 ≤ p ∧ p ≤ 97 ∧ TEff K H v f 0 ∧ Nf p f (cf f) ∧ 0 < n ∧ n < 1000 ∧ ((w = .non ∧ f ≠ [] ∧ n % p = 0) ∨ (¬ (f ≠ [] ∧ n % p = 0) ∧ ∃ q, TEff K H w q 0 ∧ Nf p q (cf q) ∧ q.length < 64 ∧ ∀ e, n * cf q e % p = cf f e % p)) ∧ ∀ H', Same H H' → Q (.bl true) H'
def sp__law_case (K : PySem.W.Frag) : Sp := fun vs H Q _ => ∃ (p c : Addr) (q times : Int) (n : Nat), vs = [.ref p, .int q, .int times] ∧ 2 ≤ q ∧ q ≤ 97 ∧ 0 < times ∧ times ≤ 60 ∧ PenAt H p c n ∧ n < 2 ^ 37 ∧
  ∀ v H' g m, Kp p H H' → PenAt H' p c (n + 12) → TEff K H' v g m → Nf q g (cf g) → (∀ t ∈ g, t.1.natAbs ≤ 60) → m.natAbs ≤ 60 → (m = 0 → g.length ≤ 10) → Q v H'
/-- a root lies within -/
theorem Cm.bd {p : Int} (hp : p ∈ primes) {f q : Pol} {s k n : Int} (hk : k ≠ 0) (hn : 0 < n) (hs : s = n * k) (nq : Nf p q (cf q)) (h : Cm p f s q k) {A : Nat} (hf : ∀ t ∈ f, t.1.natAbs ≤ A) : ∀ t ∈ q, t.1.natAbs ≤ A := by
  have hpr := prime_rng p hp
  obtain ⟨g, ng, h0⟩ := geo_ex hpr.1 hk (n := n.toNat) (by omega)
  refine fac_bd hp nq ng.self h0 (fun e => ?_) hf
  have e1 := Cm.power hp hk (by omega) hs h e
  rw [← pw_rounds q k (by omega)] at e1
  rw [← e1]
  exact conv_mod (fun x => by rw [ng.cof, Int.emod_emod]) q e
/-- the rounds of the law -/
theorem rounds_bd {p k : Int} {n : Nat} {g : Pol} (ng : Nf p g (cf (rounds n k))) {A : Nat} (h : n * k.natAbs ≤ A) : ∀ t ∈ g, t.1.natAbs ≤ A := ng.subP (R := fun x => x.natAbs ≤ A) fun e he => by
  rw [cf_none _ e fun t ht z => he ?_]
  · exact Int.zero_emod _
  · obtain ⟨m, hm, rfl⟩ := List.mem_map.mp ht
    have hm := List.mem_range.mp hm
    have z : (m : Int) * k = e := z
    rw [← z, Int.natAbs_mul]
    exact Nat.le_trans (Nat.mul_le_mul_right _ (by omega)) h
theorem rounds_few {p : Int} {times sh : Int} {g : Pol} (ng : Nf p g (cf (rounds times.toNat sh))) (ht : 0 < times) (h : (sh * times).natAbs ≤ 1) : g.length ≤ 1 := by
  by_cases z : sh = 0
  · refine ng.len (L := [0]) fun e he => ?_
    rw [cf_none _ e fun t ht y => he ?_]
    · exact Int.zero_emod _
    · obtain ⟨m, _, rfl⟩ := List.mem_map.mp ht
      have y : (m : Int) * sh = e := y
      rw [z, Int.mul_zero] at y
      rw [← y]
      exact List.mem_singleton.mpr rfl
  · have h1 : times = 1 := by
      rw [Int.natAbs_mul] at h
      have : 1 * times.natAbs ≤ sh.natAbs * times.natAbs := Nat.mul_le_mul_right _ (by omega)
      omega
    subst h1
    have := ng.len (L := (rounds (1 : Int).toNat sh).map (·.1)) fun e he => by
      rw [cf_out he]
      exact Int.zero_emod _
    exact this
/-- an effect of the law's -/
def EfM (K : PySem.W.Frag) (q : Int) (H : Hp) (v : V) : Prop := ∃ g m, TEff K H v g m ∧ Nf q g (cf g) ∧ (∀ t ∈ g, t.1.natAbs ≤ 60) ∧ m.natAbs ≤ 60 ∧ (m = 0 → g.length ≤ 10)
theorem EfM.tp {K : PySem.W.Frag} {q : Int} {H H' : Hp} {v : V} (t : Tp H H') (h : EfM K q H v) : EfM K q H' v := by
  obtain ⟨g, m, h1, h2⟩ := h
  exact ⟨g, m, h1.tp t, h2⟩
theorem ends_of {g : Pol} (h : g ≠ []) : ∃ g0 g1 dg lead lg l0, g = g0 ++ [(dg, lead)] ∧ g = (lg, l0) :: g1 := by
  obtain ⟨g0, dg, lead, hg⟩ := ne_snoc h
  cases g with
  | nil => exact absurd rfl h
  | cons u g1 => exact ⟨g0, g1, dg, lead, u.1, u.2, hg, rfl⟩
/-- what the law's division by the rounds tells -/
theorem nth_yes {p : Int} {f q g : Pol} {s k n : Int} (hn : 0 ≤ n) (hs : s = n * k) (ng : Nf p g (cf (rounds n.toNat k))) (he : ∀ e, (cf [] e + cf (prods q g) e - cf f e) % p = 0) : Cm p f s q k := Cm.of_power hs fun e => by
  have h1 := eq_of_sub (he e)
  rw [show cf ([] : Pol) e + cf (prods q g) e = cf (prods q g) e by rw [cf_nil]; omega, cf_prods] at h1
  rw [← h1, ← pw_rounds q k hn]
  exact (conv_mod (fun x => by rw [ng.cof, Int.emod_emod]) q e).symm
theorem nth_no {p : Int} (hp : p ∈ primes) {f q g r g0 g1 : Pol} {s k n dg lead lg l0 : Int} (hk : k ≠ 0) (hn : 0 ≤ n) (hs : s = n * k) (ng : Nf p g (cf (rounds n.toNat k))) (hg : g = g0 ++ [(dg, lead)]) (hg1 : g = (lg, l0) :: g1) (nr : Nf p r (cf r)) (he : ∀ e, (cf r e + cf (prods q g) e - cf f e) % p = 0) (w : ∀ t ∈ r, ∀ u ∈ r, t.1 - u.1 < dg - lg) {q' : Pol} (h : Cm p f s q' k) : r = [] := by
  have hpr := prime_rng p hp
  have e1 : ∀ e, conv q' (cf g) e % p = cf f e % p := fun e => by
    rw [← Cm.power hp hk hn hs h e, ← pw_rounds q' k hn]
    exact conv_mod (fun x => by rw [ng.cof, Int.emod_emod]) q' e
  obtain ⟨d, nd⟩ := nf_ex (p := p) (by omega) (q' ++ q.map fun t => (t.1, t.2 * -1))
  refine (narrow_zero hp nd.self ng.self nr hg hg1 (fun e => ?_) w).2
  rw [conv_fst (f' := q' ++ q.map fun t => (t.1, t.2 * -1)) (fun x => by rw [nd.cof, Int.emod_emod]) g e, conv_append, conv_scl]
  have e2 := he e
  rw [cf_prods] at e2
  have e3 := sub_of_eq (e1 e)
  refine eq_of_sub ?_
  have e4 := z_sub e3 e2
  rw [show conv q' (cf g) e + conv q (cf g) e * -1 - cf r e = conv q' (cf g) e - cf f e - (cf r e + conv q (cf g) e - cf f e) by omega]
  exact e4
end DR
namespace DR
open PySem PySem.Spec PyProof.Rows L2
/-! ### length certificates -/
abbrev Tri := Int × Int × Int
def TriV (K : PySem.W.Frag) (H : Hp) (x : V) (t : Tri) : Prop := ∃ a, x = .ref a ∧ SqT K H a [.int t.1, .int t.2.1, .int t.2.2]
theorem TriV.tp {K : PySem.W.Frag} {H H' : Hp} {x : V} {t : Tri} (e : Tp H H') (h : TriV K H x t) : TriV K H' x t := by
  obtain ⟨a, r, q⟩ := h
  exact ⟨a, r, tp_t e q⟩
abbrev TriVs (K : PySem.W.Frag) (H : Hp) : List V → List Tri → Prop := Paired (TriV K H)
theorem TriVs.tp {K : PySem.W.Frag} {H H' : Hp} (e : Tp H H') : ∀ {xs : List V} {ts : List Tri}, TriVs K H xs ts → TriVs K H' xs ts
  | _, _, .nil => .nil
  | _, _, .cons r q => .cons (r.tp e) (TriVs.tp e q)
theorem TriVs.get {K : PySem.W.Frag} {H : Hp} : ∀ {xs : List V} {ts : List Tri} {j : Nat} {x : V}, TriVs K H xs ts → xs[j]? = some x → ∃ t, ts[j]? = some t ∧ TriV K H x t
  | _, _, _, _, .nil, e => nomatch e
  | _, _, 0, _, .cons r _, e => by
    cases e
    exact ⟨_, rfl, r⟩
  | _, _, j + 1, _, .cons _ q, e => TriVs.get (j := j) q e
theorem TriVs.len {K : PySem.W.Frag} {H : Hp} : ∀ {xs : List V} {ts : List Tri}, TriVs K H xs ts → xs.length = ts.length
  | _, _, .nil => rfl
  | _, _, .cons _ q => by rw [List.length_cons, TriVs.len q, List.length_cons]
/-- [a triple for a, b, c in a list of triples if ..] -/
theorem lcTri {K : PySem.W.Frag} {a : Addr} {xs : List V} {ts : List Tri} {σ : L2.St} {H : Hp} {vs : List Nat} {i j l : Nat} {te tv : TE} {tt : TT} {Q : VK} (b : Tri → Bool) (hv : ∀ R : VK, R (.ref a) H → tv σ H R) (hs : SqL K H a xs) (hP : TriVs K H xs ts) (hl : ts.length ≤ 100000)
    (hw : ∀ x y z, wipe ((((wipe σ vs).set i (some x)).set j (some y)).set l (some z)) vs = wipe σ vs)
    (ht : ∀ t ∈ ts, ∀ H2, ∀ S : Bool → Hp → Prop, S (b t) H2 → tt ((((wipe σ vs).set i (some (.int t.1))).set j (some (.int t.2.1))).set l (some (.int t.2.2))) H2 S)
    (he : ∀ t ∈ ts, ∀ H2, ∀ R : VK, (∀ q, H2 q = none → R (.ref q) (upd H2 q (.tup [.int t.1, .int t.2.1, .int t.2.2]))) → te ((((wipe σ vs).set i (some (.int t.1))).set j (some (.int t.2.1))).set l (some (.int t.2.2))) H2 R)
    (k : ∀ D H2 ys, H D = none → Same H H2 → H2 D = some (.lst ys) → TriVs K H2 ys (ts.filter b) → Q (.ref D) H2) : tLc (iList K tv) (gTup K 3 (gCons (gName i) (gCons (gName j) (gCons (gName l) gNil)))) tt te vs σ H Q := by
  refine hv _ ⟨a, rfl, ⟨_, hs⟩, fun D nD => lc_list (K := K) (a := a) (xs := xs) (fun m H2 => Same H H2 ∧ ∃ ys, H2 D = some (.lst ys) ∧ TriVs K H2 ys ((ts.take m).filter b)) ⟨same_new nD, [], upd_same, .nil⟩ (fun m H2 _ g => same_l g.1 hs) ?_ ?_⟩
  · rintro m x H2 hm ⟨s2, ys, hD, hY⟩
    obtain ⟨t, hte, c, rfl, hc⟩ := hP.get hm
    have hm0 := List.mem_of_getElem? hte
    have hm2 : m < ts.length := (List.getElem?_eq_some_iff.mp hte).1
    refine ⟨c, _, rfl, same_t s2 hc, rfl, _, _, rfl, _, _, rfl, _, _, rfl, rfl, hw _ _ _, ?_⟩
    refine ht t hm0 H2 _ ?_
    have et : (ts.take (m + 1)).filter b = (ts.take m).filter b ++ [t].filter b := by rw [take_snoc hte, List.filter_append]
    cases hb : b t with
    | true =>
      rw [if_pos rfl]
      refine he t hm0 H2 _ fun q nq => ?_
      have sq := same_new nq (o := HO.tup [V.int t.1, V.int t.2.1, V.int t.2.2])
      have hD2 := sq _ _ hD
      have tl := tp_lst hD2 (o := HO.lst (ys ++ [V.ref q]))
      have yl : ys.length ≤ 100000 := by
        have h1 := hY.len
        have h2 := List.length_filter_le b (ts.take m)
        rw [List.length_take] at h2
        omega
      refine ⟨ys, hD2, sl_lt (by omega), same_mut (s2.trans sq) nD, ys ++ [V.ref q], upd_same, ?_⟩
      rw [et, List.filter_cons_of_pos hb]
      exact paired_app (hY.tp ((Same.tp sq).trans tl)) (.cons ⟨q, rfl, tp_t tl (SqT.of upd_same)⟩ .nil)
    | false =>
      rw [if_neg (by decide)]
      refine ⟨s2, ys, hD, ?_⟩
      rw [et, List.filter_cons_of_neg (by rw [hb]; decide), List.filter_nil, List.append_nil]
      exact hY
  · rintro H2 ⟨s2, ys, hD, hY⟩
    rw [hP.len, List.take_length] at hY
    exact k D H2 ys nD s2 hD hY
/-! the certificate of an effect -/
def turnsP (p : Int) (f : Pol) : Pol := f.map fun u => (u.1, ft p u.2)
def bands (f : Pol) (m : Int) : List Tri := [(lo f m, min 0 m, 2), (min 0 m, max 0 m, 1), (max 0 m, hi f m, 2)]
def isBand (t : Tri) : Bool := decide (t.1 < t.2.1)
def weigh (t : Tri) : Int := t.2.2 * (t.2.1 - t.1)
theorem bands_sum (f : Pol) (m : Int) : (((bands f m).filter isBand).map weigh).sum = 2 * (hi f m - lo f m) - absI m := by
  have E := endsOf f m
  have e1 := E.l0; have e2 := E.lm; have e3 := E.h0; have e4 := E.hm
  have drop : ∀ ts : List Tri, (∀ t ∈ ts, t.1 ≤ t.2.1) → ((ts.filter isBand).map weigh).sum = (ts.map weigh).sum := by
    intro ts
    induction ts with
    | nil => exact fun _ => rfl
    | cons t r ih =>
      intro h
      have ih := ih fun u hu => h u (List.mem_cons_of_mem _ hu)
      have h1 := h t List.mem_cons_self
      cases hb : isBand t with
      | true => rw [List.filter_cons_of_pos hb, List.map_cons, List.map_cons, List.sum_cons, List.sum_cons, ih]
      | false =>
        have h2 : t.1 = t.2.1 := by
          have := of_decide_eq_false hb
          omega
        have h3 : weigh t = 0 := by
          unfold weigh
          rw [h2, Int.sub_self, Int.mul_zero]
        rw [List.filter_cons_of_neg (by rw [hb]; decide), ih, List.map_cons, List.sum_cons, h3, Int.zero_add]
  rw [drop]
  · show 2 * (min 0 m - lo f m) + (1 * (max 0 m - min 0 m) + (2 * (hi f m - max 0 m) + 0)) = _
    unfold absI
    split <;> omega
  · intro t ht
    rcases List.mem_cons.mp ht with e | ht
    · rw [e]
      show lo f m ≤ min 0 m
      omega
    rcases List.mem_cons.mp ht with e | ht
    · rw [e]
      show min 0 m ≤ max 0 m
      omega
    cases List.mem_singleton.mp ht
    show max 0 m ≤ hi f m
    omega
/-- what the law asks of one band -/
def BandOk (f : Pol) (m : Int) (t : Tri) : Prop := (t.2.2 = 1 ∧ min 0 m ≤ t.1 ∧ t.2.1 ≤ max 0 m) ∨ (t.2.2 = 2 ∧ ¬ (t.1 < max 0 m ∧ min 0 m < t.2.1) ∧ ((0 ≤ t.1 ∧ ∃ u, f[f.length - 1]? = some u ∧ t.2.1 ≤ u.1) ∨ (t.1 < 0 ∧ t.2.1 ≤ 0 ∧ ∃ u, f[0]? = some u ∧ u.1 ≤ t.1)))
theorem asc_begin9 : ∀ {f : Pol} {u : Int × Int}, (f.Pairwise fun x y => x.1 < y.1) → f[0]? = some u → ∀ t ∈ f, u.1 ≤ t.1
  | v :: r, u, h, e, t, ht => by
    cases e
    rcases List.mem_cons.mp ht with z | z
    · rw [z]
      exact Int.le_refl _
    · exact Int.le_of_lt ((List.pairwise_cons.mp h).1 t z)
theorem asc_end9 {f : Pol} {u : Int × Int} (h : f.Pairwise fun x y => x.1 < y.1) (e : f[f.length - 1]? = some u) : ∀ t ∈ f, t.1 ≤ u.1 := fun t ht => by
  have hr : f.reverse.Pairwise fun x y => y.1 < x.1 := List.pairwise_reverse.mpr h
  have e2 : f.reverse[0]? = some u := by
    have hl : 0 < f.length := by
      cases f with
      | nil => cases ht
      | cons _ _ => exact Nat.succ_pos _
    rw [List.getElem?_reverse hl]
    exact e
  have ht2 : t ∈ f.reverse := List.mem_reverse.mpr ht
  generalize f.reverse = g at hr e2 ht2
  match g, e2 with
  | v :: r, e2 =>
    cases e2
    rcases List.mem_cons.mp ht2 with z | z
    · rw [z]
      exact Int.le_refl _
    · exact Int.le_of_lt ((List.pairwise_cons.mp hr).1 t z)
theorem bands_ok {f : Pol} {m : Int} (asc : f.Pairwise fun x y => x.1 < y.1) : ∀ t ∈ (bands f m).filter isBand, t.1 < t.2.1 ∧ BandOk f m t := fun t ht => by
  obtain ⟨h1, h2⟩ := List.mem_filter.mp ht
  have lt : t.1 < t.2.1 := of_decide_eq_true h2
  refine ⟨lt, ?_⟩
  have E := endsOf f m
  have e1 := E.l0; have e2 := E.lm; have e3 := E.h0; have e4 := E.hm
  rcases List.mem_cons.mp h1 with e | h1
  · subst e
    have lt : lo f m < min 0 m := lt
    refine .inr ⟨rfl, fun z => ?_, .inr ⟨?_, ?_, ?_⟩⟩
    · have z : min 0 m < min 0 m := z.2
      omega
    · show lo f m < 0
      omega
    · show min 0 m ≤ 0
      omega
    · show ∃ u, f[0]? = some u ∧ u.1 ≤ lo f m
      cases e : f[0]? with
      | none =>
        have hn : f = [] := by
          cases f with
          | nil => rfl
          | cons _ _ => cases e
        have := (ends_in (f := f) (m := m) (a := min 0 m) (b := max 0 m) ⟨by omega, by omega, by omega, by omega, (fun t h => by rw [hn] at h; cases h), (fun t h => by rw [hn] at h; cases h)⟩).1
        omega
      | some u =>
        refine ⟨u, rfl, ?_⟩
        have first := asc_begin9 asc e
        have := (ends_in (f := f) (m := m) (a := min u.1 (min 0 m)) (b := hi f m) ⟨by omega, by omega, by omega, by omega, fun t h => by have := first t h; omega, fun t h => E.ht t h⟩).1
        omega
  rcases List.mem_cons.mp h1 with e | h1
  · subst e
    exact .inl ⟨rfl, Int.le_refl _, Int.le_refl _⟩
  · cases List.mem_singleton.mp h1
    have lt : max 0 m < hi f m := lt
    refine .inr ⟨rfl, fun z => ?_, .inl ⟨?_, ?_⟩⟩
    · have z : max 0 m < max 0 m := z.1
      omega
    · show 0 ≤ max 0 m
      omega
    · show ∃ u, f[f.length - 1]? = some u ∧ hi f m ≤ u.1
      cases e : f[f.length - 1]? with
      | none =>
        have hn : f = [] := by
          cases f with
          | nil => rfl
          | cons x r =>
            have := List.getElem?_eq_none_iff.mp e
            rw [List.length_cons] at this
            omega
        have := (ends_in (f := f) (m := m) (a := min 0 m) (b := max 0 m) ⟨by omega, by omega, by omega, by omega, (fun t h => by rw [hn] at h; cases h), (fun t h => by rw [hn] at h; cases h)⟩).2
        omega
      | some u =>
        refine ⟨u, rfl, ?_⟩
        have last := asc_end9 asc e
        have := (ends_in (f := f) (m := m) (a := lo f m) (b := max u.1 (max 0 m)) ⟨by omega, by omega, by omega, by omega, fun t h => E.lt t h, fun t h => by have := last t h; omega⟩).2
        omega
theorem bands_order (f : Pol) (m : Int) : ((bands f m).filter isBand).Pairwise fun x y => x.2.1 ≤ y.1 := by
  refine List.Pairwise.sublist List.filter_sublist ?_
  refine .cons (fun y hy => ?_) (.cons (fun y hy => ?_) (.cons (fun y hy => absurd hy List.not_mem_nil) .nil))
  · rcases List.mem_cons.mp hy with e | hy
    · rw [e]
      exact Int.le_refl _
    · cases List.mem_singleton.mp hy
      show min 0 m ≤ max 0 m
      omega
  · cases List.mem_singleton.mp hy
    exact Int.le_refl _
/-! what the defs promise -/
def sp_length_certificate (K : PySem.W.Frag) : Sp := fun vs H Q _ => ∃ (p : Int) (v : V) (f : Pol) (m : Int), vs = [.int p, v] ∧ TEff K H v f m ∧ f.length ≤ 100000 ∧
  ∀ T L1 L2 xs ys H', Same H H' → SqT K H' T [.ref L1, .ref L2] → H L1 = none → H L2 = none → L1 ≠ L2 → H' L1 = some (.lst xs) → Prs K H' xs (turnsP p f) → H' L2 = some (.lst ys) → TriVs K H' ys ((bands f m).filter isBand) → Q (.ref T) H'
def sp__law_is_crossed (K : PySem.W.Frag) : Sp := fun vs H Q _ => ∃ (v : V) (f : Pol) (m : Int) (t : Tri), vs = [v, .int t.1, .int t.2.1, .int t.2.2] ∧ TEff K H v f m ∧ f.length ≤ 100000 ∧ BandOk f m t ∧ ∀ H', Same H H' → Q (.bl true) H'
def sp__law_certified (K : PySem.W.Frag) : Sp := fun vs H Q _ => ∃ (p : Int) (v : V) (f : Pol) (m : Int) (T L1 L2 : Addr) (xs ys : List V), vs = [.int p, v, .ref T] ∧ 2 ≤ p ∧ TEffP K H v f m ∧ Nf p f (cf f) ∧ f.length ≤ 10000 ∧ SqT K H T [.ref L1, .ref L2] ∧ H L1 = some (.lst xs) ∧ Prs K H xs (turnsP p f) ∧ H L2 = some (.lst ys) ∧ TriVs K H ys ((bands f m).filter isBand) ∧
  ∀ H', Same H H' → Q (.int (lenE p f m)) H'
theorem ty_tup {K : PySem.W.Frag} {H : Hp} {a : Addr} {xs : List V} (h : SqT K H a xs) : TyX K H (.ref a) (.type "tuple") :=
  match h with
  | .inl (.inl z) => .base (.tup z)
  | .inl (.inr ⟨_, z⟩) => .fTuple z
  | .inr ⟨_, _, _, z, c, _⟩ => .kTuple z c
/-- the sum of the first j -/
def sumTo (p : Int) (f : Pol) (j : Nat) : Int := turnsOf p (f.take j)
theorem sumTo_snoc {p : Int} {f : Pol} {j : Nat} {t : Int × Int} (h : f[j]? = some t) : sumTo p f (j + 1) = sumTo p f j + ft p t.2 := by
  unfold sumTo turnsOf
  rw [take_snoc h, List.map_append, List.sum_append]
  show _ + (ft p t.2 + 0) = _
  rw [Int.add_zero]
def weighTo (ts : List Tri) (j : Nat) : Int := ((ts.take j).map weigh).sum
theorem weighTo_snoc {ts : List Tri} {j : Nat} {t : Tri} (h : ts[j]? = some t) : weighTo ts (j + 1) = weighTo ts j + weigh t := by
  unfold weighTo
  rw [take_snoc h, List.map_append, List.sum_append]
  show _ + (weigh t + 0) = _
  rw [Int.add_zero]
/-- what stands in `last` after j entries: nothing, or a number below the next one -/
def LastOk (v : V) (bound : Int) : Prop := v = .non ∨ ∃ n, v = .int n ∧ n < bound
end DR
open L2 PySem PySem.Spec PyProof.Rows
/-! the parts of a certificate as the program tests them -/
namespace DR
/-- from s to e, outside of 0 .. m, the effect is crossed twice -/
def crossB (f : Pol) (m s e : Int) : Bool := match f[0]?, f[f.length - 1]? with
  | some u, some w => if max 0 m ≤ s then decide (e ≤ w.1) else if e ≤ min 0 m then decide (u.1 ≤ s) else false
  | _, _ => false
def stretchB (f : Pol) (m : Int) (t : Tri) : Bool :=
  if t.2.1 ≤ t.1 then false
  else if t.2.2 = 1 then decide (min 0 m ≤ t.1) && decide (t.2.1 ≤ max 0 m)
  else decide (t.2.2 = 2) && crossB f m t.1 t.2.1
theorem crossB_nil (m s e : Int) : crossB [] m s e = false := rfl
theorem crossB_at {f : Pol} {m s e : Int} {u w : Int × Int} (h0 : f[0]? = some u) (h1 : f[f.length - 1]? = some w) : crossB f m s e = if max 0 m ≤ s then decide (e ≤ w.1) else if e ≤ min 0 m then decide (u.1 ≤ s) else false := by
  unfold crossB
  rw [h0, h1]
def sp_is_crossed_twice (K : PySem.W.Frag) : Sp := fun vs H Q _ => ∃ (v : V) (f : Pol) (m s e : Int), vs = [v, .int s, .int e] ∧ TEff K H v f m ∧ f.length ≤ 100000 ∧ Q (.bl (crossB f m s e)) H
def sp_is_stretch (K : PySem.W.Frag) : Sp := fun vs H Q _ => ∃ (v x : V) (f : Pol) (m : Int) (t : Tri), vs = [v, x] ∧ TEff K H v f m ∧ f.length ≤ 100000 ∧ TriV K H x t ∧ Q (.bl (stretchB f m t)) H
/-- rows of ints -/
def Row (K : PySem.W.Frag) (H : Hp) (x : V) (r : List Int) : Prop := ∃ a, x = .ref a ∧ SqT K H a (r.map V.int)
theorem Row.tp {K : PySem.W.Frag} {H H' : Hp} {x : V} {r : List Int} (e : Tp H H') (h : Row K H x r) : Row K H' x r := by
  obtain ⟨a, z, q⟩ := h
  exact ⟨a, z, tp_t e q⟩
abbrev Rows (K : PySem.W.Frag) (H : Hp) : List V → List (List Int) → Prop := Paired (Row K H)
theorem Rows.tp {K : PySem.W.Frag} {H H' : Hp} (e : Tp H H') : ∀ {xs : List V} {rs : List (List Int)}, Rows K H xs rs → Rows K H' xs rs
  | _, _, .nil => .nil
  | _, _, .cons r q => .cons (r.tp e) (Rows.tp e q)
theorem Rows.get {K : PySem.W.Frag} {H : Hp} : ∀ {xs : List V} {rs : List (List Int)} {j : Nat} {x : V}, Rows K H xs rs → xs[j]? = some x → ∃ r, rs[j]? = some r ∧ Row K H x r
  | _, _, j, _, .nil, e => by cases j <;> cases e
  | _, _, 0, _, .cons r _, e => by cases e; exact ⟨_, rfl, r⟩
  | _, _, j + 1, _, .cons _ q, e => Rows.get (j := j) q e
theorem Rows.len {K : PySem.W.Frag} {H : Hp} : ∀ {xs : List V} {rs : List (List Int)}, Rows K H xs rs → xs.length = rs.length
  | _, _, .nil => rfl
  | _, _, .cons _ q => congrArg (· + 1) (Rows.len q)
theorem flat_room {rs : List (List Int)} {r : List Int} {i : Nat} (h : rs[i]? = some r) : (rs.take i).flatten.length + r.length ≤ rs.flatten.length := by
  have e := congrArg (fun z => (List.flatten z).length) (List.take_append_drop (i + 1) rs)
  rw [take_snoc h] at e
  have e : ((rs.take i ++ [r]) ++ rs.drop (i + 1)).flatten.length = rs.flatten.length := e
  rw [List.flatten_append, List.length_append, List.flatten_append, List.length_append] at e
  have one : [r].flatten.length = r.length := by rw [List.flatten_cons, List.flatten_nil, List.append_nil]
  omega
/-- [f(n) for row in rows for n in row] -/
theorem lcRows {K : PySem.W.Frag} {rs : List (List Int)} {σ : L2.St} {H : Hp} {vs vs1 : List Nat} {i j : Nat} {te tv : TE} {Q : VK} (G : Int → V)
    (hv : ∀ R : VK, (∀ a xs H1, Same H H1 → SqL K H1 a xs → Rows K H1 xs rs → R (.ref a) H1) → tv σ H R) (hl : rs.flatten.length ≤ 100000)
    (hw : ∀ x, wipe ((wipe σ vs).set i (some x)) vs = wipe σ vs) (hi : ∀ x, ((wipe σ vs).set i (some x))[i]? = some (some x))
    (hw1 : ∀ x y, wipe ((wipe ((wipe σ vs).set i (some x)) vs1).set j (some y)) vs1 = wipe ((wipe σ vs).set i (some x)) vs1)
    (he : ∀ n ∈ rs.flatten, ∀ x H2, Same H H2 → ∀ R : VK, (∀ H3, Same H2 H3 → R (G n) H3) → te ((wipe ((wipe σ vs).set i (some x)) vs1).set j (some (.int n))) H2 R)
    (k : ∀ D H2, Same H H2 → H2 D = some (.lst (rs.flatten.map G)) → Q (.ref D) H2) : tLc2 (iList K tv) (gName i) tYes (iTup K (tVar i)) (gName j) tYes te vs vs1 σ H Q := by
  refine hv _ fun a xs H1 s1 hs hR => ⟨a, rfl, ⟨_, hs⟩, fun D nD => ?_⟩
  have hlen := Rows.len hR
  refine ⟨fun u m H2 => m = xs.length - u ∧ u ≤ xs.length ∧ Same H1 H2 ∧ H2 D = some (.lst ((rs.take u).flatten.map G)), ⟨_, rfl, Nat.zero_le _, same_new nD, upd_same⟩, ?_⟩
  rintro u _ H2 ⟨rfl, hu, s2, hD⟩
  have here := same_l s2 hs
  by_cases more : u < xs.length
  · refine .inr ⟨⟨xs, xs[u], here, List.getElem?_eq_getElem more⟩, fun H' => Same H1 H' ∧ H' D = some (.lst ((rs.take (u + 1)).flatten.map G)), fun H' z => ⟨_, (show xs.length - (u + 1) < xs.length - u by omega), rfl, more, z.1, z.2⟩, fun x H' y => ?_⟩
    obtain ⟨e, y⟩ := y
    subst e
    obtain ⟨r, hr, b, rfl, hb⟩ := hR.get (y xs here)
    have hsn : (rs.take (u + 1)).flatten = (rs.take u).flatten ++ r := by
      rw [take_snoc hr, List.flatten_append, List.flatten_cons, List.flatten_nil, List.append_nil]
    have room := flat_room hr
    refine ⟨hw _, ?_⟩
    refine ⟨_, hi _, b, rfl, ⟨_, same_t s2 hb⟩, fun l m H5 => m = r.length - l ∧ l ≤ r.length ∧ Same H1 H5 ∧ H5 D = some (.lst (((rs.take u).flatten ++ r.take l).map G)), ⟨_, rfl, Nat.zero_le _, s2, by rw [List.take_zero, List.append_nil]; exact hD⟩, ?_⟩
    rintro l _ H5 ⟨rfl, hl5, s5, hD5⟩
    have now := same_t s5 hb
    by_cases part : l < r.length
    · refine .inr ⟨⟨_, .int r[l], now, by rw [List.getElem?_map, List.getElem?_eq_getElem part]; rfl⟩, fun H' => Same H1 H' ∧ H' D = some (.lst (((rs.take u).flatten ++ r.take (l + 1)).map G)), fun H' z => ⟨_, (show r.length - (l + 1) < r.length - l by omega), rfl, part, z.1, z.2⟩, fun x H' y => ?_⟩
      obtain ⟨e, y⟩ := y
      subst e
      have hx := y _ now
      rw [List.getElem?_map, List.getElem?_eq_getElem part] at hx
      cases hx
      refine ⟨hw1 _ _, ?_⟩
      have mem : r[l] ∈ rs.flatten := List.mem_flatten.mpr ⟨r, List.mem_of_getElem? hr, List.getElem_mem part⟩
      refine he _ mem _ _ (s1.trans s5) _ fun H7 s7 => ?_
      refine ⟨_, s7 _ _ hD5, sl_lt ?_, same_mut (s5.trans s7) nD, ?_⟩
      · rw [List.length_map, List.length_append, List.length_take]
        omega
      · rw [take_snoc (List.getElem?_eq_getElem part), ← List.append_assoc, List.map_append (l₁ := (rs.take u).flatten ++ r.take l)]
        exact upd_same
    · have e : l = r.length := by omega
      subst e
      refine .inl ⟨⟨_, now, by rw [List.length_map]; exact Nat.le_refl _⟩, s5, ?_⟩
      rw [hsn]
      rw [List.take_length] at hD5
      exact hD5
  · have e : u = xs.length := by omega
    subst e
    refine .inl ⟨⟨_, here, Nat.le_refl _⟩, k D H2 (s1.trans s2) ?_⟩
    rw [hlen, List.take_length] at hD
    exact hD
section
variable {X : Cx} (K : PySem.W.Frag) (same : X.K = K)
include same
theorem isiK : CallR X (.builtin "isinstance") (rIsi K) := by
  rw [← same]
  exact call_isi
theorem lenK : CallR X (.builtin "len") (fun xs H Q => ∃ p ys, xs = [.ref p] ∧ (SqL K H p ys ∨ SqT K H p ys) ∧ Q (.int ys.length) H) := by
  rw [← same]
  exact call_len_seq
theorem tupWalkK {tg l : Expr} {tl : TE} (hl : PE X l tl) : PI X tg l (iTup K tl) := by
  rw [← same]
  exact pi_tup hl
end
/-- [a truth value for x in a list], told by the place in it -/
theorem lcLB {K : PySem.W.Frag} {a : Addr} {xs : List V} {σ : L2.St} {H : Hp} {vs : List Nat} {i : Nat} {te tv : TE} {Q : VK} (G : Nat → Bool) (hv : ∀ R : VK, R (.ref a) H → tv σ H R) (hs : H a = some (.lst xs)) (hl : xs.length ≤ 100000)
    (hw : ∀ x, wipe ((wipe σ vs).set i (some x)) vs = wipe σ vs)
    (he : ∀ (j : Nat) (x : V) H2, xs[j]? = some x → Same H H2 → ∀ R : VK, (∀ H3, Same H2 H3 → R (.bl (G j)) H3) → te ((wipe σ vs).set i (some x)) H2 R)
    (k : ∀ D H2, Same H H2 → H2 D = some (.lst (((List.range xs.length).map G).map V.bl)) → Q (.ref D) H2) : tLc (iList K tv) (gName i) tYes te vs σ H Q := by
  refine hv _ ⟨a, rfl, ⟨_, SqL.of hs⟩, fun D nD => lc_list (K := K) (a := a) (xs := xs) (fun m H2 => Same H H2 ∧ H2 D = some (.lst (((List.range m).map G).map V.bl))) ⟨same_new nD, upd_same⟩ (fun m H2 _ g => SqL.of (g.1 _ _ hs)) ?_ fun H2 z => k D H2 z.1 z.2⟩
  rintro m x H2 hm ⟨s2, hD⟩
  have inside := (List.getElem?_eq_some_iff.mp hm).1
  refine ⟨hw _, ?_⟩
  refine he m x H2 hm s2 _ fun H3 s3 => ⟨_, s3 _ _ hD, sl_lt ?_, same_mut (s2.trans s3) nD, ?_⟩
  · rw [List.length_map, List.length_map, List.length_range]
    omega
  · rw [List.range_succ, List.map_append, List.map_append (l₁ := (List.range m).map G)]
    exact upd_same
/-- [a truth value for x, y in zip of two lists], told by the place in them -/
theorem lcZB {K : PySem.W.Frag} {ta : TA} {σ : L2.St} {H : Hp} {vs : List Nat} {i j n : Nat} {te : TE} {Q : VK} {xs ys : List V} (G : Nat → Bool) (ha : ∀ R : List V → Hp → Prop, (∀ a b H1, Same H H1 → SqL K H1 a xs → SqL K H1 b ys → R [V.ref a, V.ref b] H1) → ta σ H R)
    (hn : n = min xs.length ys.length) (hl : n ≤ 100000) (hw : ∀ x y, wipe (((wipe σ vs).set i (some x)).set j (some y)) vs = wipe σ vs)
    (he : ∀ (u : Nat) (x y : V) H2, xs[u]? = some x → ys[u]? = some y → Same H H2 → ∀ S : VK, (∀ H3, Same H2 H3 → S (.bl (G u)) H3) → te (((wipe σ vs).set i (some x)).set j (some y)) H2 S)
    (k : ∀ D H2, Same H H2 → H2 D = some (.lst (((List.range n).map G).map V.bl)) → Q (.ref D) H2) : tLc (RZ.iZipA K ta) (gTup K 2 (gCons (gName i) (gCons (gName j) gNil))) tYes te vs σ H Q := by
  refine ha _ fun a b H1 s1 h1 h2 => ⟨a, b, _, _, rfl, .inl ⟨h1, h2, fun D nD => ?_⟩⟩
  refine lc_it (walk_zip (K := K) (a := a) (b := b) (xs := xs) (ys := ys) (n := n) hn) (fun m H2 => Same H1 H2 ∧ H2 D = some (.lst (((List.range m).map G).map V.bl))) ⟨same_new nD, upd_same⟩ (fun m H2 _ z => ⟨same_l z.1 h1, same_l z.1 h2⟩) ?_ fun H2 z => k D H2 (s1.trans z.1) z.2
  rintro u v H2 H3 inside ⟨s2, hD⟩ ⟨T, x, y, rfl, nT, rfl, gx, gy⟩
  have s3 := same_new nT (o := HO.tup [x, y])
  refine ⟨T, _, rfl, SqT.of upd_same, rfl, x, _, rfl, y, _, rfl, rfl, hw _ _, ?_⟩
  refine he u x y _ gx gy (s1.trans (s2.trans s3)) _ fun H4 s4 => ⟨_, s4 _ _ (s3 _ _ hD), sl_lt ?_, same_mut ((s2.trans s3).trans s4) nD, ?_⟩
  · rw [List.length_map, List.length_map, List.length_range]
    omega
  · rw [List.range_succ, List.map_append, List.map_append (l₁ := (List.range u).map G)]
    exact upd_same
theorem all_range {G : Nat → Bool} {n : Nat} (h : ∀ j, j < n → G j = true) : (((List.range n).map G).all id) = true :=
  List.all_eq_true.mpr fun b hb => by
    obtain ⟨j, hj, rfl⟩ := List.mem_map.mp hb
    exact h j (List.mem_range.mp hj)
/-- value is a list of tuples of that size, ints all -/
def sp_are_rows (K : PySem.W.Frag) : Sp := fun vs H Q _ => ∃ (a : Addr) (xs : List V) (rs : List (List Int)) (size : Nat), vs = [.ref a, .int size] ∧ H a = some (.lst xs) ∧ Rows K H xs rs ∧ (∀ r ∈ rs, r.length = size) ∧ rs.flatten.length ≤ 100000 ∧ rs.length ≤ 100000 ∧ ∀ H', Same H H' → Q (.bl true) H'
/-- [a truth value for i, j in a list of pairs] -/
theorem lcPB {K : PySem.W.Frag} {a : Addr} {xs : List V} {g : Pol} {σ : L2.St} {H : Hp} {vs : List Nat} {i j : Nat} {te tv : TE} {Q : VK} (G : Int × Int → Bool) (hv : ∀ R : VK, R (.ref a) H → tv σ H R) (hs : H a = some (.lst xs)) (hP : Prs K H xs g) (hl : g.length ≤ 100000)
    (hw : ∀ x y, wipe (((wipe σ vs).set i (some x)).set j (some y)) vs = wipe σ vs)
    (he : ∀ t ∈ g, ∀ H2, Same H H2 → ∀ R : VK, (∀ H3, Same H2 H3 → R (.bl (G t)) H3) → te (((wipe σ vs).set i (some (.int t.1))).set j (some (.int t.2))) H2 R)
    (k : ∀ D H2, Same H H2 → H2 D = some (.lst ((g.map G).map V.bl)) → Q (.ref D) H2) : tLc (iList K tv) (gTup K 2 (gCons (gName i) (gCons (gName j) gNil))) tYes te vs σ H Q := by
  have hlen := hP.len
  refine hv _ ⟨a, rfl, ⟨_, SqL.of hs⟩, fun D nD => lc_list (K := K) (a := a) (xs := xs) (fun m H2 => Same H H2 ∧ H2 D = some (.lst (((g.take m).map G).map V.bl))) ⟨same_new nD, upd_same⟩ (fun m H2 _ z => SqL.of (z.1 _ _ hs)) ?_ fun H2 z => k D H2 z.1 ?_⟩
  · rintro m x H2 hm ⟨s2, hD⟩
    have inside := (List.getElem?_eq_some_iff.mp hm).1
    obtain ⟨t, ht, b, rfl, hb⟩ := hP.get hm
    refine ⟨b, _, rfl, same_t s2 hb, rfl, _, _, rfl, _, _, rfl, rfl, hw _ _, ?_⟩
    refine he t (List.mem_of_getElem? ht) H2 s2 _ fun H3 s3 => ⟨_, s3 _ _ hD, sl_lt ?_, same_mut (s2.trans s3) nD, ?_⟩
    · rw [List.length_map, List.length_map, List.length_take]
      omega
    · rw [take_snoc ht, List.map_append, List.map_append (l₁ := (g.take m).map G)]
      exact upd_same
  · have q := z.2
    rw [hlen, List.take_length] at q
    exact q
def prAt (g : Pol) (u : Nat) : Int × Int := g[u]?.getD (0, 0)
theorem prAt_of {g : Pol} {u : Nat} {t : Int × Int} (h : g[u]? = some t) : prAt g u = t := by
  unfold prAt
  rw [h]
  rfl
def turnB (p : Int) (f : Pol) (t : Int × Int) : Bool := decide (1 ≤ t.2) && decide (t.2 ≤ ft p (cf f t.1))
def turnsB (p : Int) (f g : Pol) : Bool :=
  ((List.range (g.length - 1)).map fun u => decide ((prAt g u).1 < (prAt g (u + 1)).1)).all id && (g.map (turnB p f)).all id
def prRow (t : Int × Int) : List Int := [t.1, t.2]
theorem pr_rows {K : PySem.W.Frag} {H : Hp} : ∀ {xs : List V} {g : Pol}, Prs K H xs g → Rows K H xs (g.map prRow)
  | _, _, .nil => .nil
  | _, _, .cons r q => .cons r (pr_rows q)
theorem pr_flat : ∀ g : Pol, (g.map prRow).flatten.length = 2 * g.length
  | [] => rfl
  | t :: r => by
    have := pr_flat r
    show ([t.1, t.2] ++ (r.map prRow).flatten).length = 2 * (r.length + 1)
    rw [List.length_append, this]
    show 2 + 2 * r.length = _
    omega
def sp_are_turns (K : PySem.W.Frag) : Sp := fun vs H Q _ => ∃ (p : Int) (v : V) (f : Pol) (a : Addr) (xs : List V) (g : Pol), vs = [.int p, v, .ref a] ∧ TPolP K H v f ∧ Nf p f (cf f) ∧ H a = some (.lst xs) ∧ Prs K H xs g ∧ g.length ≤ 30000 ∧ ∀ H', Same H H' → Q (.bl (turnsB p f g)) H'
def triAt (ts : List Tri) (u : Nat) : Tri := ts[u]?.getD (0, 0, 0)
theorem triAt_of {ts : List Tri} {u : Nat} {t : Tri} (h : ts[u]? = some t) : triAt ts u = t := by
  unfold triAt
  rw [h]
  rfl
def stretchesB (f : Pol) (m : Int) (ts : List Tri) : Bool :=
  ((List.range (ts.length - 1)).map fun u => decide ((triAt ts u).2.1 ≤ (triAt ts (u + 1)).1)).all id && ((List.range ts.length).map fun u => stretchB f m (triAt ts u)).all id
def triRow (t : Tri) : List Int := [t.1, t.2.1, t.2.2]
theorem tri_rows {K : PySem.W.Frag} {H : Hp} : ∀ {xs : List V} {ts : List Tri}, TriVs K H xs ts → Rows K H xs (ts.map triRow)
  | _, _, .nil => .nil
  | _, _, .cons r q => .cons r (tri_rows q)
theorem tri_flat : ∀ ts : List Tri, (ts.map triRow).flatten.length = 3 * ts.length
  | [] => rfl
  | t :: r => by
    have := tri_flat r
    show ([t.1, t.2.1, t.2.2] ++ (r.map triRow).flatten).length = 3 * (r.length + 1)
    rw [List.length_append, this]
    show 3 + 3 * r.length = _
    omega
def sp_are_stretches (K : PySem.W.Frag) : Sp := fun vs H Q _ => ∃ (v : V) (f : Pol) (m : Int) (a : Addr) (xs : List V) (ts : List Tri), vs = [v, .ref a] ∧ TEff K H v f m ∧ f.length ≤ 100000 ∧ H a = some (.lst xs) ∧ TriVs K H xs ts ∧ ts.length ≤ 30000 ∧ ∀ H', Same H H' → Q (.bl (stretchesB f m ts)) H'
/-- [an int for i, j in a list of pairs] -/
theorem lcPI {K : PySem.W.Frag} {a : Addr} {xs : List V} {g : Pol} {σ : L2.St} {H : Hp} {vs : List Nat} {i j : Nat} {te tv : TE} {Q : VK} (G : Int × Int → Int) (hv : ∀ R : VK, R (.ref a) H → tv σ H R) (hs : H a = some (.lst xs)) (hP : Prs K H xs g) (hl : g.length ≤ 100000)
    (hw : ∀ x y, wipe (((wipe σ vs).set i (some x)).set j (some y)) vs = wipe σ vs)
    (he : ∀ t ∈ g, ∀ H2, Same H H2 → ∀ R : VK, R (.int (G t)) H2 → te (((wipe σ vs).set i (some (.int t.1))).set j (some (.int t.2))) H2 R)
    (k : ∀ D H2, Same H H2 → H2 D = some (.lst ((g.map G).map V.int)) → Q (.ref D) H2) : tLc (iList K tv) (gTup K 2 (gCons (gName i) (gCons (gName j) gNil))) tYes te vs σ H Q := by
  have hlen := hP.len
  refine hv _ ⟨a, rfl, ⟨_, SqL.of hs⟩, fun D nD => lc_list (K := K) (a := a) (xs := xs) (fun m H2 => Same H H2 ∧ H2 D = some (.lst (((g.take m).map G).map V.int))) ⟨same_new nD, upd_same⟩ (fun m H2 _ z => SqL.of (z.1 _ _ hs)) ?_ fun H2 z => k D H2 z.1 ?_⟩
  · rintro m x H2 hm ⟨s2, hD⟩
    have inside := (List.getElem?_eq_some_iff.mp hm).1
    obtain ⟨t, ht, b, rfl, hb⟩ := hP.get hm
    refine ⟨b, _, rfl, same_t s2 hb, rfl, _, _, rfl, _, _, rfl, rfl, hw _ _, ?_⟩
    refine he t (List.mem_of_getElem? ht) H2 s2 _ ⟨_, hD, sl_lt ?_, same_mut s2 nD, ?_⟩
    · rw [List.length_map, List.length_map, List.length_take]
      omega
    · rw [take_snoc ht, List.map_append, List.map_append (l₁ := (g.take m).map G)]
      exact upd_same
  · have q := z.2
    rw [hlen, List.take_length] at q
    exact q
/-- [an int for i, j, l in a list of triples] -/
theorem lcTI {K : PySem.W.Frag} {a : Addr} {xs : List V} {ts : List Tri} {σ : L2.St} {H : Hp} {vs : List Nat} {i j l : Nat} {te tv : TE} {Q : VK} (G : Tri → Int) (hv : ∀ R : VK, R (.ref a) H → tv σ H R) (hs : H a = some (.lst xs)) (hT : TriVs K H xs ts) (hl : ts.length ≤ 100000)
    (hw : ∀ x y z, wipe ((((wipe σ vs).set i (some x)).set j (some y)).set l (some z)) vs = wipe σ vs)
    (he : ∀ t ∈ ts, ∀ H2, Same H H2 → ∀ R : VK, R (.int (G t)) H2 → te ((((wipe σ vs).set i (some (.int t.1))).set j (some (.int t.2.1))).set l (some (.int t.2.2))) H2 R)
    (k : ∀ D H2, Same H H2 → H2 D = some (.lst ((ts.map G).map V.int)) → Q (.ref D) H2) : tLc (iList K tv) (gTup K 3 (gCons (gName i) (gCons (gName j) (gCons (gName l) gNil)))) tYes te vs σ H Q := by
  have hlen := hT.len
  refine hv _ ⟨a, rfl, ⟨_, SqL.of hs⟩, fun D nD => lc_list (K := K) (a := a) (xs := xs) (fun m H2 => Same H H2 ∧ H2 D = some (.lst (((ts.take m).map G).map V.int))) ⟨same_new nD, upd_same⟩ (fun m H2 _ z => SqL.of (z.1 _ _ hs)) ?_ fun H2 z => k D H2 z.1 ?_⟩
  · rintro m x H2 hm ⟨s2, hD⟩
    have inside := (List.getElem?_eq_some_iff.mp hm).1
    obtain ⟨t, ht, b, rfl, hb⟩ := hT.get hm
    refine ⟨b, _, rfl, same_t s2 hb, rfl, _, _, rfl, _, _, rfl, _, _, rfl, rfl, hw _ _ _, ?_⟩
    refine he t (List.mem_of_getElem? ht) H2 s2 _ ⟨_, hD, sl_lt ?_, same_mut s2 nD, ?_⟩
    · rw [List.length_map, List.length_map, List.length_take]
      omega
    · rw [take_snoc ht, List.map_append, List.map_append (l₁ := (ts.take m).map G)]
      exact upd_same
  · have q := z.2
    rw [hlen, List.take_length] at q
    exact q
theorem stretch_count {f : Pol} {m : Int} {t : Tri} (h : stretchB f m t = true) : t.2.2 = 1 ∨ t.2.2 = 2 := by
  unfold stretchB at h
  split at h
  · cases h
  split at h
  · next e => exact .inl e
  · exact .inr (of_decide_eq_true (Bool.and_eq_true_iff.mp h).1)
theorem stretches_count {f : Pol} {m : Int} {ts : List Tri} (h : stretchesB f m ts = true) : ∀ t ∈ ts, t.2.2 = 1 ∨ t.2.2 = 2 := fun t ht => by
  obtain ⟨u, hu, e⟩ := List.getElem_of_mem ht
  have q := List.all_eq_true.mp (Bool.and_eq_true_iff.mp h).2 (stretchB f m (triAt ts u)) (List.mem_map.mpr ⟨u, List.mem_range.mpr hu, rfl⟩)
  rw [triAt_of (by rw [List.getElem?_eq_getElem hu, e] : ts[u]? = some t)] at q
  exact stretch_count q
def certB (p : Int) (f : Pol) (m : Int) (g : Pol) (ts : List Tri) (bound : Int) : Bool :=
  turnsB p f g && (stretchesB f m ts && decide (bound ≤ (g.map (·.2)).sum + (ts.map fun t => (t.2.1 - t.1) * t.2.2).sum))
def sp_certifies_length (K : PySem.W.Frag) : Sp := fun vs H Q _ => ∃ (p : Int) (v : V) (f : Pol) (m bound : Int) (T L1 L2 : Addr) (xs ys : List V) (g : Pol) (ts : List Tri), vs = [.int p, v, .int bound, .ref T] ∧ TEffP K H v f m ∧ Nf p f (cf f) ∧ f.length ≤ 100000 ∧
  SqT K H T [.ref L1, .ref L2] ∧ H L1 = some (.lst xs) ∧ Prs K H xs g ∧ g.length ≤ 30000 ∧ H L2 = some (.lst ys) ∧ TriVs K H ys ts ∧ ts.length ≤ 30000 ∧ ∀ H', Same H H' → Q (.bl (certB p f m g ts bound)) H'
end DR
/-! ### strides, each so often as the group that has it most often -/
namespace DR
open PySem PySem.Spec PyProof.Rows L2
def repl (m : Pol) : List Int := (m.map fun t => List.replicate t.2.toNat t.1).flatten
theorem repl_app (a b : Pol) : repl (a ++ b) = repl a ++ repl b := by
  unfold repl
  rw [List.map_append, List.flatten_append]
theorem repl_one (t : Int × Int) : repl [t] = List.replicate t.2.toNat t.1 := by
  unfold repl
  rw [List.map_cons, List.map_nil, List.flatten_cons, List.flatten_nil, List.append_nil]
theorem repl_count (s : Int) : ∀ {m : Pol}, (m.map (·.1)).Nodup → (repl m).count s = (cf m s).toNat
  | [], _ => rfl
  | t :: r, n => by
    have nn := List.nodup_cons.mp (show (t.1 :: r.map (·.1)).Nodup from n)
    have e : repl (t :: r) = List.replicate t.2.toNat t.1 ++ repl r := by
      rw [← repl_one, ← repl_app]
      rfl
    rw [e, List.count_append, repl_count s nn.2, cf_cons, List.count_replicate]
    by_cases z : t.1 = s
    · rw [if_pos (beq_iff_eq.mpr z), if_pos z, cf_out (by rw [← z]; exact nn.1), Int.add_zero]
      omega
    · rw [if_neg (fun y => z (eq_of_beq y)), if_neg z, Int.zero_add, Nat.zero_add]
theorem repl_len : ∀ {m : Pol}, (∀ t ∈ m, t.2 ≤ 2) → (repl m).length ≤ 2 * m.length
  | [], _ => Nat.le_refl _
  | t :: r, h => by
    have e : repl (t :: r) = List.replicate t.2.toNat t.1 ++ repl r := by
      rw [← repl_one, ← repl_app]
      rfl
    have a := repl_len fun u hu => h u (List.mem_cons_of_mem t hu)
    have b := h t List.mem_cons_self
    rw [e, List.length_append, List.length_replicate, List.length_cons]
    omega
theorem sct_len (s : Int) (f : Pol) : sct s f ≤ f.length := by
  unfold sct
  refine Nat.le_trans List.count_le_length ?_
  rw [List.length_map]
  exact Nat.le_refl _
/-- the dict of strides while the groups are walked -/
structure StJ (A : Grp) (g : Pol) (j : Nat) (m : Pol) : Prop where
  nd : (m.map (·.1)).Nodup
  low : ∀ u ∈ A, ∀ s, (sct s u.1 : Int) ≤ cf m s
  mine : ∀ s ∈ (g.map (·.2)).take j, (sct s g : Int) ≤ cf m s
  att : ∀ s ∈ m.map (·.1), (∃ u ∈ A, cf m s = sct s u.1) ∨ cf m s = sct s g
structure StI (A : Grp) (m : Pol) : Prop where
  nd : (m.map (·.1)).Nodup
  low : ∀ u ∈ A, ∀ s, (sct s u.1 : Int) ≤ cf m s
  att : ∀ s ∈ m.map (·.1), ∃ u ∈ A, cf m s = sct s u.1
theorem cf_put (m : Pol) (e v x : Int) (n : (m.map (·.1)).Nodup) : cf (put m e v) x = if x = e then v else cf m x := by
  induction m with
  | nil =>
    rw [put_new List.not_mem_nil, List.nil_append, cf_cons, cf_nil]
    by_cases z : x = e
    · rw [if_pos z, if_pos z.symm, Int.add_zero]
    · rw [if_neg z, if_neg (Ne.symm z), Int.add_zero]
  | cons t r ih =>
    have nn := List.nodup_cons.mp (show (t.1 :: r.map (·.1)).Nodup from n)
    rw [put]
    by_cases q : t.1 = e
    · rw [if_pos q, cf_cons, cf_cons]
      by_cases z : x = e
      · rw [if_pos z, z, if_pos rfl, cf_out (by rw [← q]; exact nn.1), Int.add_zero]
      · rw [if_neg z, if_neg (Ne.symm z), if_neg fun y => z (y.symm.trans q)]
    · rw [if_neg q, cf_cons, ih nn.2, cf_cons]
      by_cases z : x = e
      · rw [if_pos z, if_pos z, if_neg fun y => q (y.trans z), Int.zero_add]
      · rw [if_neg z, if_neg z]
theorem StI.into {A : Grp} {m g : Pol} (h : StI A m) : StJ A g 0 m := ⟨h.nd, h.low, fun _ z => absurd z List.not_mem_nil, fun s z => .inl (h.att s z)⟩
theorem StJ.over {A : Grp} {m : Pol} {g : Pol × Pol} (h : StJ A g.1 g.1.length m) (pos : ∀ s, 0 ≤ cf m s) : StI (A ++ [g]) m := by
  refine ⟨h.nd, fun u hu s => ?_, fun s hs => ?_⟩
  · rcases List.mem_append.mp hu with z | z
    · exact h.low u z s
    · cases List.mem_singleton.mp z
      by_cases m0 : s ∈ g.1.map (·.2)
      · refine h.mine s ?_
        rw [List.take_of_length_le (by rw [List.length_map]; exact Nat.le_refl _)]
        exact m0
      · have : sct s g.1 = 0 := List.count_eq_zero.mpr m0
        rw [this]
        exact pos s
  · rcases h.att s hs with ⟨u, hu, e⟩ | e
    · exact ⟨u, List.mem_append_left _ hu, e⟩
    · exact ⟨g, List.mem_append_right _ (List.mem_singleton.mpr rfl), e⟩
theorem StJ.pos {A : Grp} {g m : Pol} {j : Nat} (h : StJ A g j m) (s : Int) : 0 ≤ cf m s := by
  by_cases z : s ∈ m.map (·.1)
  · rcases h.att s z with ⟨u, _, e⟩ | e <;> omega
  · rw [cf_out z]
    exact Int.le_refl _
theorem StJ.next {A : Grp} {g m : Pol} {j : Nat} {s v : Int} (h : StJ A g j m) (at_ : (g.map (·.2))[j]? = some s) (hv : v = if (((g.map (·.2)).count s : Nat) : Int) > cf m s then (((g.map (·.2)).count s : Nat) : Int) else cf m s) : StJ A g (j + 1) (put m s v) := by
  have cnt : ((g.map (·.2)).count s : Int) = sct s g := rfl
  rw [cnt] at hv
  have ge1 : (sct s g : Int) ≤ v := by rw [hv]; split <;> omega
  have ge2 : cf m s ≤ v := by rw [hv]; split <;> omega
  refine ⟨put_nodup _ _ _ h.nd, fun u hu y => ?_, fun y hy => ?_, fun y hy => ?_⟩
  · rw [cf_put _ _ _ _ h.nd]
    have := h.low u hu y
    split
    · next e =>
      rw [e] at this ⊢
      omega
    · exact this
  · rw [cf_put _ _ _ _ h.nd]
    split
    · next e =>
      rw [e]
      exact ge1
    · next e =>
      rw [take_snoc at_] at hy
      rcases List.mem_append.mp hy with z | z
      · exact h.mine y z
      · exact absurd (List.mem_singleton.mp z) e
  · rw [cf_put _ _ _ _ h.nd]
    have old : y ≠ s → y ∈ m.map (·.1) := fun ne => by
      by_cases z : s ∈ m.map (·.1)
      · rw [put_old h.nd z, List.map_map] at hy
        have : m.map ((·.1) ∘ fun t => if t.1 = s then (t.1, v) else t) = m.map (·.1) := List.map_congr_left fun t _ => by
          show (if t.1 = s then (t.1, v) else t).1 = t.1
          split <;> rfl
        rwa [this] at hy
      · rw [put_new z, List.map_append] at hy
        rcases List.mem_append.mp hy with q | q
        · exact q
        · exact absurd (List.mem_singleton.mp q) ne
    by_cases e : y = s
    · rw [if_pos e, e]
      by_cases big : (sct s g : Int) > cf m s
      · rw [if_pos big] at hv
        exact .inr hv
      · rw [if_neg big] at hv
        rw [hv]
        by_cases z : s ∈ m.map (·.1)
        · exact h.att s z
        · rw [cf_out z] at big ⊢
          exact .inr (by omega)
    · rw [if_neg e]
      exact h.att y (old e)
/-- [k for k in a locked dict for _ in range(what stands under k)] -/
theorem lcReps {σ : L2.St} {H : Hp} {vs vs1 : List Nat} {n i j : Nat} {te tr : TE} {Z : VK} {d : Addr} {o : Obj} {m : Pol} (hv : σ[n]? = some (some (.ref d))) (hd : H d = some (.frz o (.dK (kvOf m)))) (sized : ∀ t ∈ m, 0 ≤ t.2 ∧ t.2 ≤ 100000) (few : (repl m).length ≤ 1000000)
    (hw : ∀ x, wipe ((wipe σ vs).set i (some x)) vs = wipe σ vs)
    (hw1 : ∀ x y, wipe ((wipe ((wipe σ vs).set i (some x)) vs1).set j (some y)) vs1 = wipe ((wipe σ vs).set i (some x)) vs1)
    (hr : ∀ t ∈ m, ∀ H2, Same H H2 → ∀ R : VK, R (.int t.2) H2 → tr ((wipe σ vs).set i (some (.int t.1))) H2 R)
    (he : ∀ t ∈ m, ∀ y H2, Same H H2 → ∀ R : VK, R (.int t.1) H2 → te ((wipe ((wipe σ vs).set i (some (.int t.1))) vs1).set j (some y)) H2 R)
    (k : ∀ D H2, H D = none → Same H H2 → H2 D = some (.lst ((repl m).map V.int)) → Z (.ref D) H2) : tLc2 (iKeys (tVar n)) (gName i) tYes (iRng1 (tCons tr tNil)) (gName j) tYes te vs vs1 σ H Z := by
  refine ⟨_, hv, d, o, rfl, .inl ⟨kvOf m, hd, fun D nD => ?_⟩⟩
  have len := kv_len m
  refine ⟨fun u left G => left = m.length - u ∧ u ≤ m.length ∧ Same H G ∧ G D = some (.lst ((repl (m.take u)).map V.int)), ⟨m.length, by rw [Nat.sub_zero], Nat.zero_le _, same_new nD, upd_same⟩, ?_⟩
  rintro u left G ⟨rfl, hu, s, hD⟩
  by_cases more : u < m.length
  · refine .inr ⟨⟨s _ _ hd, by rw [len]; exact more⟩, fun G => Same H G ∧ G D = some (.lst ((repl (m.take (u + 1))).map V.int)), fun G q => ⟨_, (show m.length - (u + 1) < m.length - u by omega), rfl, more, q⟩, ?_⟩
    rintro x G' ⟨rfl, key, v, at_, rfl⟩
    rw [kv_at, List.getElem?_eq_getElem more, Option.map_some] at at_
    cases at_
    have mem : m[u] ∈ m := List.getElem_mem more
    have next : m.take (u + 1) = m.take u ++ [m[u]] := take_snoc (List.getElem?_eq_getElem more)
    have split : repl (m.take (u + 1)) = repl (m.take u) ++ List.replicate (m[u]).2.toNat (m[u]).1 := by rw [next, repl_app, repl_one]
    have part : (repl (m.take (u + 1))).length ≤ (repl m).length := by
      have e : repl m = repl (m.take (u + 1)) ++ repl (m.drop (u + 1)) := by rw [← repl_app, List.take_append_drop]
      rw [e, List.length_append]
      exact Nat.le_add_right _ _
    rw [split, List.length_append, List.length_replicate] at part
    obtain ⟨pos, top⟩ := sized _ mem
    refine ⟨hw _, ?_⟩
    dsimp only [tYes]
    rw [if_pos rfl]
    refine hr _ mem G' s _ ⟨_, rfl, by omega, by omega, ?_⟩
    refine ⟨fun l left G2 => left = (m[u]).2.toNat - l ∧ l ≤ (m[u]).2.toNat ∧ Same H G2 ∧ G2 D = some (.lst ((repl (m.take u) ++ List.replicate l (m[u]).1).map V.int)), ⟨_, rfl, Nat.zero_le _, s, by rw [List.replicate_zero, List.append_nil]; exact hD⟩, ?_⟩
    rintro l left G2 ⟨rfl, hl, s2, hD2⟩
    by_cases go : l < (m[u]).2.toNat
    · refine .inr ⟨go, fun G => Same H G ∧ G D = some (.lst ((repl (m.take u) ++ List.replicate (l + 1) (m[u]).1).map V.int)), fun G q => ⟨_, (show (m[u]).2.toNat - (l + 1) < (m[u]).2.toNat - l by omega), rfl, go, q⟩, ?_⟩
      rintro y G3 ⟨rfl, rfl⟩
      refine ⟨hw1 _ _, ?_⟩
      dsimp only [tYes]
      rw [if_pos rfl]
      refine he _ mem _ _ s2 _ ⟨_, hD2, sl_lt ?_, same_mut s2 nD, ?_⟩
      · rw [List.length_map, List.length_append, List.length_replicate]
        omega
      · rw [upd_same, List.replicate_succ', ← List.append_assoc, List.map_append (l₁ := repl (m.take u) ++ _)]
        rfl
    · have e : l = (m[u]).2.toNat := by omega
      subst e
      refine .inl ⟨Nat.le_refl _, s2, ?_⟩
      rw [split]
      exact hD2
  · have e : u = m.length := by omega
    subst e
    refine .inl ⟨⟨s _ _ hd, by rw [len]; exact Nat.le_refl _⟩, k D G nD s ?_⟩
    rw [List.take_length] at hD
    exact hD
/-- [y for x, y in a tuple of pairs] -/
theorem lcSnd {K : PySem.W.Frag} {a : Addr} {xs : List V} {f : Pol} {σ : L2.St} {H : Hp} {vs : List Nat} {n i j : Nat} {te : TE} {Z : VK} (hv : σ[n]? = some (some (.ref a))) (hs : SqT K H a xs) (hP : Prs K H xs f) (hl : f.length ≤ 1000000)
    (hw : ∀ x y, wipe (((wipe σ vs).set i (some x)).set j (some y)) vs = wipe σ vs)
    (he : ∀ t ∈ f, ∀ H2, Same H H2 → ∀ R : VK, R (.int t.2) H2 → te (((wipe σ vs).set i (some (.int t.1))).set j (some (.int t.2))) H2 R)
    (k : ∀ D H2, H D = none → Same H H2 → H2 D = some (.lst ((f.map (·.2)).map V.int)) → Z (.ref D) H2) : tLc (iTup K (tVar n)) (gTup K 2 (gCons (gName i) (gCons (gName j) gNil))) tYes te vs σ H Z := by
  refine ⟨_, hv, a, rfl, ⟨_, hs⟩, fun D nD => lc_tup (K := K) (a := a) (xs := xs) (fun m H2 => Same H H2 ∧ H2 D = some (.lst (((f.take m).map (·.2)).map V.int))) ⟨same_new nD, upd_same⟩ (fun m H2 _ g => same_t g.1 hs) ?_ ?_⟩
  · rintro m x H2 hm ⟨s2, hD⟩
    obtain ⟨t, ht, b, rfl, hb⟩ := hP.get hm
    refine ⟨b, _, rfl, same_t s2 hb, rfl, _, _, rfl, _, _, rfl, rfl, hw _ _, ?_⟩
    dsimp only [tYes]
    rw [if_pos rfl]
    refine he t (List.mem_of_getElem? ht) H2 s2 _ ⟨_, hD, sl_lt ?_, same_mut s2 nD, ?_⟩
    · rw [List.length_map, List.length_map, List.length_take]
      omega
    · rw [upd_same, take_snoc ht, List.map_append, List.map_append]
      rfl
  · rintro H2 ⟨s2, hD⟩
    rw [hP.len, List.take_length] at hD
    exact k D H2 nD s2 hD
def sp_strides_of (w : World) (K : PySem.W.Frag) : Sp := fun vs H Q _ => ∃ (a : Addr) (G : Grp), vs = [.ref a] ∧ GD w K H a G ∧ (G.map (·.1)).Nodup ∧ G.length ≤ 10000 ∧ (∀ g ∈ G, g.1.length ≤ 2) ∧
  ∀ (L : Addr) (S : List Int) H', Same H H' → H' L = some (.lst (S.map V.int)) → (∀ g ∈ G, ∀ s, sct s g.1 ≤ S.count s) → (∀ s ∈ S, ∃ g ∈ G, sct s g.1 = S.count s) → Q (.ref L) H'
end DR
/-! ### groups with one stride less -/
namespace DR
open PySem PySem.Spec PyProof.Rows L2
theorem drop_at {s : Int} : ∀ {f : Pol} {j : Nat} {t : Int × Int}, (∀ i u, i < j → f[i]? = some u → u.2 ≠ s) → f[j]? = some t → t.2 = s → dropS s f = f.eraseIdx j ∧ jump s f = t.1 * s
  | [], j, t, _, h, _ => by cases h
  | u :: r, 0, t, _, h, e => by
    cases h
    unfold dropS jump
    rw [if_pos e, if_pos e]
    exact ⟨rfl, rfl⟩
  | u :: r, j + 1, t, n, h, e => by
    have ne := n 0 u (Nat.succ_pos j) rfl
    obtain ⟨a, b⟩ := drop_at (f := r) (fun i v hi hv => n (i + 1) v (by omega) hv) h e
    unfold dropS jump
    rw [if_neg ne, if_neg ne, a, b]
    exact ⟨rfl, rfl⟩
theorem drop_none {s : Int} : ∀ {f : Pol}, (∀ t ∈ f, t.2 ≠ s) → dropS s f = f ∧ jump s f = s
  | [], _ => ⟨rfl, rfl⟩
  | u :: r, n => by
    have ne := n u List.mem_cons_self
    obtain ⟨a, b⟩ := drop_none (f := r) fun t h => n t (List.mem_cons_of_mem u h)
    unfold dropS jump
    rw [if_neg ne, if_neg ne, a, b]
    exact ⟨rfl, rfl⟩
theorem mv_app (f : Int → Int) (x : Int) (a b : Pol) : mv (a ++ b) f x = mv a f x + mv b f x := by
  unfold mv
  rw [List.map_append, List.sum_append]
theorem mv_less {f g : Int → Int} {a b : Int} (h : ∀ d, f d - f (d - a) = g d - g (d - b)) (x : Int) : ∀ m : Pol, mv m f x - mv m f (x - a) = mv m g x - mv m g (x - b)
  | [] => rfl
  | t :: r => by
    have ih := mv_less h x r
    have one := congrArg (t.2 * ·) (h (x - t.1))
    have one : t.2 * (f (x - t.1) - f (x - t.1 - a)) = t.2 * (g (x - t.1) - g (x - t.1 - b)) := one
    rw [Int.mul_sub, Int.mul_sub] at one
    rw [mv_cons, mv_cons, mv_cons, mv_cons, show x - a - t.1 = x - t.1 - a by omega, show x - b - t.1 = x - t.1 - b by omega]
    omega
theorem gtot_snoc {G : Grp} {i : Nat} {g : Pol × Pol} (h : G[i]? = some g) : gtot (G.take (i + 1)) = gtot (G.take i) + g.2.length := by
  rw [take_snoc h, gtot_app, gtot_cons]
  rfl
theorem gtot_take (G : Grp) (i : Nat) : gtot (G.take i) ≤ gtot G := by
  have : gtot (G.take i ++ G.drop i) = gtot (G.take i) + gtot (G.drop i) := gtot_app _ _
  rw [List.take_append_drop] at this
  omega
section
variable {K : PySem.W.Frag} {H0 H : Hp} {T : NkT} {G : Grp} {d : Addr} {u : HO}
/-- a dict that is none of theirs is locked, or let go -/
theorem GT.off (q : Tq H (upd H d u)) (n : H0 d ≠ none) (h : GT K H0 H T G) : GT K H0 (upd H d u) T G := by
  refine ⟨Paired.mapP h.each fun p g e => ?_, h.apart⟩
  obtain ⟨e1, e2, d2, h1, h2, h3⟩ := e
  refine ⟨e1, e2.tq q, d2, h1, ?_, h3⟩
  have ne : d2 ≠ d := fun z => n (by rw [← z]; exact h3)
  rw [upd_ne ne]
  exact h2
end
def sp_without_stride (w : World) (K : PySem.W.Frag) : Sp := fun vs H Q _ => ∃ (p : Int) (a : Addr) (s : Int) (G : Grp) (N M : Nat), vs = [.int p, .ref a, .int s] ∧ 0 < p ∧ GD w K H a G ∧ GI N M (fun r => RsOk r ∧ r.length ≤ 2) G ∧ N ≤ 500000 ∧ M ≤ 10000 ∧ s.natAbs ≤ 2 ^ 331 ∧
  ∀ b H' G', Same H H' → GD w K H' b G' → (∀ x, p ∣ (gv G x - gv G (x - s)) - gv G' x) → (∀ R : Pol → Prop, (∀ g ∈ G, R (dropS s g.1)) → GW p (2 * N) M R G') → Q (.ref b) H'
end DR
/-! ### the extremes of a sum of terms -/
namespace DR
open PySem PySem.Spec PyProof.Rows L2
theorem lessAll_snoc (s : Int) : ∀ (l : List Int) (F : Int → Int), lessAll (l ++ [s]) F = less s (lessAll l F)
  | [], _ => rfl
  | _ :: l, F => lessAll_snoc s l _
theorem count_len : ∀ {S U : List Int}, (∀ s, S.count s ≤ U.count s) → S.length ≤ U.length
  | [], _, _ => Nat.zero_le _
  | s :: r, U, h => by
    have one := h s
    rw [List.count_cons, if_pos (by rw [beq_self_eq_true])] at one
    have mem : s ∈ U := List.count_pos_iff.mp (by omega)
    have := count_len (S := r) (U := U.erase s) fun t => by
      have q := h t
      rw [List.count_erase]
      rw [List.count_cons] at q
      by_cases e : s = t
      · rw [if_pos (by rw [e, beq_self_eq_true])] at q ⊢
        omega
      · rw [if_neg (fun y => e (eq_of_beq y))] at q ⊢
        omega
    rw [List.length_erase_of_mem mem] at this
    have := List.length_pos_of_mem mem
    rw [List.length_cons]
    omega
theorem sct_pos {s : Int} {f : Pol} (h : 0 < sct s f) : ∃ r ∈ f, r.2 = s := by
  unfold sct at h
  obtain ⟨r, hr, e⟩ := List.mem_map.mp (List.count_pos_iff.mp h)
  exact ⟨r, hr, e⟩
theorem mv_wy0 (x : Int) : ∀ m : Pol, mv m (wy []) x = cf m x
  | [] => rfl
  | t :: r => by
    rw [mv_cons, mv_wy0 x r, wy_nil, cf_cons]
    by_cases e : t.1 = x
    · rw [if_pos (show x - t.1 = 0 by omega), if_pos e, Int.mul_one]
    · rw [if_neg (show ¬ x - t.1 = 0 by omega), if_neg e, Int.mul_zero]
/-- groups without rounds: none, or one -/
theorem one_group {G : Grp} (n : (G.map (·.1)).Nodup) (h : ∀ g ∈ G, g.1 = []) : G = [] ∨ ∃ m, G = [([], m)] := by
  match G, n, h with
  | [], _, _ => exact .inl rfl
  | [(r, m)], _, h =>
    have : r = [] := h (r, m) List.mem_cons_self
    rw [this]
    exact .inr ⟨m, rfl⟩
  | a :: b :: r, n, h =>
    have e1 := h a List.mem_cons_self
    have e2 := h b (List.mem_cons_of_mem a List.mem_cons_self)
    have := (List.nodup_cons.mp (show (a.1 :: (b :: r).map (·.1)).Nodup from n)).1
    exact absurd (List.mem_map_of_mem (f := fun g : Pol × Pol => g.1) (List.mem_cons_self (a := b) (l := r))) (by rw [e2, ← e1]; exact this)
theorem ends_keys {p : Int} {m : Pol} {lo hi : Int} (nd : (m.map (·.1)).Nodup) (rng : ∀ t ∈ m, 0 < t.2 ∧ t.2 < p) (l1 : lo ∈ m.map (·.1)) (l2 : ∀ y ∈ m.map (·.1), lo ≤ y) (h1 : hi ∈ m.map (·.1)) (h2 : ∀ y ∈ m.map (·.1), y ≤ hi) : Ends1 p (fun x => cf m x) lo hi := by
  have at_ : ∀ y ∈ m.map (·.1), ¬ p ∣ cf m y := fun y hy z => by
    obtain ⟨t, ht, rfl⟩ := List.mem_map.mp hy
    rw [cf_at nd ht] at z
    obtain ⟨a, b⟩ := rng t ht
    have := Int.le_of_dvd a z
    omega
  have out : ∀ y, y ∉ m.map (·.1) → p ∣ cf m y := fun y hy => by
    rw [cf_out hy]
    exact Int.dvd_zero p
  exact ⟨at_ lo l1, at_ hi h1, fun x hx => out x fun z => by have := l2 x z; omega, fun x hx => out x fun z => by have := h2 x z; omega⟩
/-- strides: how often each may be taken out -/
def SOk (U : List Int) (r : Pol) : Prop := RsOk r ∧ r.length ≤ 2 ∧ ∀ s, sct s r ≤ U.count s
theorem SOk.drop {s : Int} {U : List Int} {r : Pol} (h : SOk (s :: U) r) : SOk U (dropS s r) := by
  obtain ⟨a, b, c⟩ := h
  refine ⟨fun t ht => a t (dropS_sub s r t ht), Nat.le_trans (dropS_len s r) b, fun u => ?_⟩
  rw [sct_drop]
  have := c u
  rw [List.count_cons] at this
  by_cases e : u = s
  · rw [if_pos e]
    rw [if_pos (by rw [e, beq_self_eq_true])] at this
    omega
  · rw [if_neg e]
    rw [if_neg (fun y => e (eq_of_beq y).symm)] at this
    omega
def sp_extremes (w : World) (K : PySem.W.Frag) : Sp := fun vs H Q _ => ∃ (p : Int) (D : Addr) (ys : List V) (ts : List Tm) (U : List Int), vs = [.int p, .ref D] ∧ 0 < p ∧ SqL K H D ys ∧ TVs K H ys ts ∧ ts.length ≤ 400 ∧ U.length ≤ 10 ∧ (∀ t ∈ ts, SOk U t.rs) ∧ Near p (tvs ts) ∧
  (∀ H', Same H H' → (∀ x, p ∣ tvs ts x) → Q .non H') ∧ ∀ T H' lo hi, Same H H' → Ends1 p (tvs ts) lo hi → SqT K H' T [.int lo, .int hi] → Q (.ref T) H'
theorem pow_ten {j : Nat} (h : j ≤ 10) : 2 ^ j ≤ 1024 := Nat.pow_le_pow_right (by decide) h
end DR
/-! ### the strides of a program's repeats, and of its terms -/
namespace DR
open PySem PySem.Spec PyProof.Rows L2
mutual
def sdI : Ins → List Int
  | .step _ => []
  | .turn _ => []
  | .rep _ b => ((shP b).natAbs : Int) :: sdP b
def sdP : List Ins → List Int
  | [] => []
  | i :: r => sdI i ++ sdP r
end
theorem sdP_nil : sdP [] = [] := by rw [sdP]
theorem sdP_cons (i : Ins) (r : List Ins) : sdP (i :: r) = sdI i ++ sdP r := by rw [sdP]
theorem sdP_app : ∀ a b : List Ins, sdP (a ++ b) = sdP a ++ sdP b
  | [], b => by rw [sdP_nil]; rfl
  | i :: r, b => by rw [List.cons_append, sdP_cons, sdP_cons, sdP_app r b, List.append_assoc]
theorem sdP_one (i : Ins) : sdP [i] = sdI i := by rw [sdP_cons, sdP_nil, List.append_nil]
theorem sdP_snoc {b : List Ins} {j : Nat} {i : Ins} (h : b[j]? = some i) : sdP (b.take (j + 1)) = sdP (b.take j) ++ sdI i := by rw [take_snoc h, sdP_app, sdP_one]
theorem st_le {b : List Ins} {j : Nat} {i : Ins} (h : b[j]? = some i) (y : Int) : (sdP (b.take j)).count y ≤ (sdP (b.take (j + 1))).count y := by
  rw [sdP_snoc h, List.count_append]
  exact Nat.le_add_right _ _
theorem sct_perm {f g : Pol} {n a s : Int} (h : g.Perm (f ++ [(n, a)])) (e : a = (s.natAbs : Int)) (y : Int) : sct y g ≤ sct y f + if y = (s.natAbs : Int) then 1 else 0 := by
  unfold sct
  rw [(h.map (·.2)).count_eq, List.map_append, List.count_append, ← e]
  show _ + List.count y [a] ≤ _
  rw [List.count_singleton]
  by_cases z : y = a
  · rw [if_pos z, if_pos (by rw [z, beq_self_eq_true])]
    exact Nat.le_refl _
  · rw [if_neg z, if_neg fun w => z (eq_of_beq w).symm]
    exact Nat.le_refl _
def sp_repeatedS (K : PySem.W.Frag) : Sp := fun vs H Q _ => ∃ (v : V) (t : Tm) (n s : Int) (k : Nat) (T pl : Int), vs = [v, .int n, .int s] ∧ TermV K H v t ∧ TOk k T pl t ∧ k ≤ 2 ∧ 1 ≤ n ∧ n ≤ 2 ^ 100 ∧ (s.natAbs : Int) ≤ T ∧ s.natAbs ≤ 2 ^ 331 ∧
  ∀ u H' t', Same H H' → TermV K H' u t' → Repd t n s t' → TOk (k + 1) (n * T) pl t' → (∀ y, sct y t'.rs ≤ sct y t.rs + if y = (s.natAbs : Int) then 1 else 0) → Q u H'
def sp_terms_ofS (K : PySem.W.Frag) (k : Nat) : Sp := fun vs H Q _ => ∃ (v : V) (pl : Int) (b : List Ins), vs = [v, .int pl] ∧ PV K H v b ∧ dpP b < k ∧ k ≤ 3 ∧ WP b ∧ NP b ∧ cnP b ≤ 1024 ∧
  ∀ D ys ts H', Same H H' → H D = none → H' D = some (.lst ys) → TVs K H' ys ts → (∀ x, tvs ts x = seP b (x - pl)) → (∀ t ∈ ts, TOk k (trP b) pl t) → ts.length ≤ cnP b → (∀ t ∈ ts, ∀ y, sct y t.rs ≤ (sdP b).count y) → Q (.ref D) H'
theorem trm_imp {K : PySem.W.Frag} {k : Nat} : ∀ vs H Q E, sp_terms_of K k vs H Q E → sp_terms_ofS K k vs H Q E := by
  rintro vs H Q E ⟨v, pl, b, e, h1, h2, h3, h4, h5, h6, go⟩
  exact ⟨v, pl, b, e, h1, h2, h3, h4, h5, h6, fun D ys ts H' a1 a2 a3 a4 a5 a6 a7 _ => go D ys ts H' a1 a2 a3 a4 a5 a6 a7⟩
def ngT (t : Tm) : Tm := ⟨t.pl, -t.co, t.rs⟩
theorem tvs_ng (x : Int) : ∀ ts : List Tm, tvs (ts.map ngT) x = - tvs ts x
  | [] => rfl
  | t :: r => by
    have ih := tvs_ng x r
    unfold tvs at ih ⊢
    rw [List.map_cons, List.map_cons, List.sum_cons, List.map_cons, List.sum_cons, ih]
    show -t.co * wy t.rs (x - t.pl) + _ = -(t.co * wy t.rs (x - t.pl) + _)
    rw [Int.neg_mul]
    omega
def sp_negated (K : PySem.W.Frag) : Sp := fun vs H Q _ => ∃ (D : Addr) (ys : List V) (ts : List Tm), vs = [.ref D] ∧ SqL K H D ys ∧ TVs K H ys ts ∧ ts.length ≤ 100000 ∧ ∀ L zs H', Same H H' → H' L = some (.lst zs) → TVs K H' zs (ts.map ngT) → Q (.ref L) H'
/-- what a program leaves near 0 -/
theorem prog_near {p : Int} {b : List Ins} (h : NP b) : Near p (seP b) := ⟨(trP b).natAbs, fun x hx => by
  rw [seP_far b x h (by omega)]
  exact Int.dvd_zero p⟩
def sp_extent (K : PySem.W.Frag) : Sp := fun vs H Q _ => ∃ (p : Int) (v : V) (b : List Ins), vs = [.int p, v] ∧ 0 < p ∧ PV K H v b ∧ dpP b < 3 ∧ WP b ∧ NP b ∧ cnP b ≤ 400 ∧ (sdP b).length ≤ 10 ∧
  (∀ H', Same H H' → (∀ x, p ∣ seP b x) → Q .non H') ∧ ∀ T H' lo hi, Same H H' → Ends1 p (seP b) lo hi → SqT K H' T [.int lo, .int hi] → Q (.ref T) H'
def sp_first_difference (K : PySem.W.Frag) : Sp := fun vs H Q _ => ∃ (p : Int) (v1 v2 : V) (b1 b2 : List Ins), vs = [.int p, v1, v2] ∧ 0 < p ∧ PV K H v1 b1 ∧ PV K H v2 b2 ∧ (dpP b1 < 3 ∧ WP b1 ∧ NP b1 ∧ cnP b1 ≤ 200 ∧ (sdP b1).length ≤ 5) ∧ (dpP b2 < 3 ∧ WP b2 ∧ NP b2 ∧ cnP b2 ≤ 200 ∧ (sdP b2).length ≤ 5) ∧
  (∀ T x H', Same H H' → (∀ y, y < x → seP b1 y % p = seP b2 y % p) → seP b1 x % p ≠ seP b2 x % p → SqT K H' T [.str "dial", .int x, .int (seP b1 x % p), .int (seP b2 x % p)] → Q (.ref T) H') ∧
  (∀ T H', Same H H' → (∀ y, seP b1 y % p = seP b2 y % p) → shP b1 ≠ shP b2 → SqT K H' T [.str "shift", .int (shP b1), .int (shP b2)] → Q (.ref T) H') ∧
  ∀ H', Same H H' → (∀ y, seP b1 y % p = seP b2 y % p) → shP b1 = shP b2 → Q .non H'
end DR
namespace DR
open PySem PySem.Spec PyProof.Rows L2
/-- [a term for place, coefficient, rounds in a list of terms] -/
theorem lcNg {K : PySem.W.Frag} {n : Nat} {a : Addr} {xs : List V} {ts : List Tm} {σ : L2.St} {H : Hp} {vs : List Nat} {i j l : Nat} {te : TE} {Z : VK} (G : Tm → Tm) (hv : σ[n]? = some (some (.ref a))) (hs : SqL K H a xs) (hT : TVs K H xs ts) (few : ts.length ≤ 100000)
    (hw : ∀ x y z, wipe ((((wipe σ vs).set i (some x)).set j (some y)).set l (some z)) vs = wipe σ vs)
    (he : ∀ t ∈ ts, ∀ x H2, Same H H2 → TPol K H2 x t.rs → ∀ R : VK, (∀ u H3, Same H2 H3 → TermV K H3 u (G t) → R u H3) → te ((((wipe σ vs).set i (some (.int t.pl))).set j (some (.int t.co))).set l (some x)) H2 R)
    (k : ∀ D zs H2, Same H H2 → H2 D = some (.lst zs) → TVs K H2 zs (ts.map G) → Z (.ref D) H2) : tLc (iList K (tVar n)) (gTup K 3 (gCons (gName i) (gCons (gName j) (gCons (gName l) gNil)))) tYes te vs σ H Z := by
  refine ⟨_, hv, a, rfl, ⟨_, hs⟩, fun D nD => lc_list (K := K) (a := a) (xs := xs) (fun m H2 => Same H H2 ∧ ∃ zs, H2 D = some (.lst zs) ∧ TVs K H2 zs ((ts.take m).map G)) ⟨same_new nD, [], upd_same, .nil⟩ (fun m H2 _ g => same_l g.1 hs) ?_ ?_⟩
  · rintro m x H2 hm ⟨s2, zs, hD, hZ⟩
    obtain ⟨t, ht, b, y, rfl, hb, hy⟩ := hT.get hm
    refine ⟨b, _, rfl, same_t s2 hb, rfl, _, _, rfl, _, _, rfl, _, _, rfl, rfl, hw _ _ _, ?_⟩
    dsimp only [tYes]
    rw [if_pos rfl]
    have lt : m < ts.length := (List.getElem?_eq_some_iff.mp ht).1
    refine he t (List.mem_of_getElem? ht) y H2 s2 (hy.tp (Same.tp s2)) _ fun u H3 s3 hu => ?_
    have hD3 := s3 _ _ hD
    have tp := tp_lst hD3 (o := HO.lst (zs ++ [u]))
    have zl := hZ.len
    rw [List.length_map, List.length_take] at zl
    refine ⟨zs, hD3, sl_lt (by omega), same_mut (s2.trans s3) nD, zs ++ [u], upd_same, ?_⟩
    rw [take_snoc ht, List.map_append]
    exact TVs.app (hZ.tp ((Same.tp s3).trans tp)) (.cons (hu.tp tp) .nil)
  · rintro H2 ⟨s2, zs, hD, hZ⟩
    rw [hT.len, List.take_length] at hZ
    exact k D zs H2 s2 hD hZ
theorem mod_eq {p a b : Int} (h : p ∣ a - b) : a % p = b % p := Int.emod_eq_emod_iff_emod_sub_eq_zero.mpr (Int.emod_eq_zero_of_dvd h)
end DR
/-! ### drawn programs, with how many repeats they have -/
namespace DR
open PySem PySem.Spec PyProof.Rows L2
structure PrS (b : List Ins) (k N : Nat) (R : Int) (m : Nat) : Prop where
  r : PrR b k N R
  st : (sdP b).length ≤ m
theorem flat_sd : ∀ {b : List Ins}, (∀ i ∈ b, isFlat i) → sdP b = []
  | [], _ => sdP_nil
  | i :: r, h => by
    rw [sdP_cons, flat_sd fun j hj => h j (List.mem_cons_of_mem i hj), List.append_nil]
    have := h i List.mem_cons_self
    cases i with
    | step _ => rw [sdI]
    | turn _ => rw [sdI]
    | rep _ _ => exact absurd this id
theorem Flat.okS {b : List Ins} {N R : Nat} (h : Flat b N R) (hR : R ≤ 2 ^ 100) (M : Int) : PrS b 0 N M 0 := ⟨h.okR hR M, by rw [flat_sd h.flat]; exact Nat.le_refl _⟩
theorem PrS.app {b c : List Ins} {k j N M m n : Nat} {R : Int} (h : PrS b k N R m) (h2 : PrS c j M R n) : PrS (b ++ c) (max k j) (N + M) R (m + n) := ⟨h.r.app h2.r, by
  rw [sdP_app, List.length_append]
  have := h.st
  have := h2.st
  omega⟩
theorem PrS.rep {b : List Ins} {k N m : Nat} {R : Int} (h : PrS b k N R m) (hN : N ≤ 1024) {n : Int} (hn : n.natAbs ≤ 2 ^ 100) (h0 : 0 ≤ n) (h9 : n ≤ R) : PrS [.rep n b] (k + 1) (N + 1) R (m + 1) := ⟨h.r.rep hN hn h0 h9, by
  rw [sdP_one, sdI, List.length_cons]
  exact Nat.succ_le_succ h.st⟩
theorem PrS.up {b : List Ins} {k N m k' N' m' : Nat} {R : Int} (h : PrS b k N R m) (a : k ≤ k') (c : N ≤ N') (d : m ≤ m') : PrS b k' N' R m' := ⟨h.r.up a c, Nat.le_trans h.st d⟩
/-- what a far function asks of a program -/
def PrG (b : List Ins) : Prop := dpP b < 3 ∧ WP b ∧ NP b ∧ cnP b ≤ 200 ∧ (sdP b).length ≤ 5
theorem PrS.good {b : List Ins} {k N m : Nat} {R : Int} (h : PrS b k N R m) (hk : k ≤ 2) (hN : N ≤ 200) (hm : m ≤ 5) : PrG b := ⟨by have := h.r.ok.dp; omega, h.r.ok.w, h.r.nn, by have := h.r.ok.cn; omega, Nat.le_trans h.st hm⟩
def sp__law_flat_programS (K : PySem.W.Frag) : Sp := fun vs H Q _ => ∃ (p c : Addr) (most reach rounds : Int) (n : Nat), vs = [.ref p, .int most, .int reach, .int rounds] ∧ 0 ≤ most ∧ most ≤ 20 ∧ 0 ≤ reach ∧ reach ≤ 10 ^ 30 ∧ 0 ≤ rounds ∧ rounds ≤ 10 ^ 30 ∧ PenAt H p c n ∧ n < 2 ^ 38 ∧
  ∀ F xs b H', Kp p H H' → PenAt H' p c (n + 200) → H' F = some (.lst xs) → IVs K H' xs b → PrS b 1 (3 * most.toNat + 1) rounds 1 → Q (.ref F) H'
def sp__law_short_programS (K : PySem.W.Frag) : Sp := fun vs H Q _ => ∃ (p c : Addr) (most reach rounds : Int) (n : Nat), vs = [.ref p, .int most, .int reach, .int rounds] ∧ 0 ≤ most ∧ most ≤ 20 ∧ 0 ≤ reach ∧ reach ≤ 10 ^ 30 ∧ 0 ≤ rounds ∧ rounds ≤ 10 ^ 30 ∧ PenAt H p c n ∧ n < 2 ^ 37 ∧
  ∀ F xs b H', Kp p H H' → PenAt H' p c (n + 400) → H' F = some (.lst xs) → IVs K H' xs b → PrS b 2 (5 * most.toNat + 2) rounds 2 → Q (.ref F) H'
def sp__law_alike (K : PySem.W.Frag) : Sp := fun vs H Q _ => ∃ (p c : Addr) (q : Int) (v1 v2 : V) (b1 b2 : List Ins) (m : Nat), vs = [.ref p, .int q, v1, v2] ∧ 0 < q ∧ PV K H v1 b1 ∧ PV K H v2 b2 ∧ PrG b1 ∧ PrG b2 ∧ (∀ x, seP b1 x = seP b2 x) ∧ shP b1 = shP b2 ∧ PenAt H p c m ∧ m < 2 ^ 37 ∧
  ∀ H', Kp p H H' → PenAt H' p c (m + 40) → Q (.bl true) H'
end DR
namespace DR
open PySem PySem.Spec PyProof.Rows L2
theorem rsum_split (f : Int → Int) (s : Int) (a : Nat) : ∀ (b : Nat) (x : Int), rsum f s (a + b) x = rsum f s a x + rsum f s b (x - a * s)
  | 0, x => by
    show rsum f s a x = rsum f s a x + 0
    rw [Int.add_zero]
  | b + 1, x => by
    show rsum f s (a + b) x + f (x - ((a + b : Nat) : Int) * s) = rsum f s a x + (rsum f s b (x - a * s) + f (x - a * s - b * s))
    rw [rsum_split f s a b x, show x - ((a + b : Nat) : Int) * s = x - (a : Int) * s - (b : Int) * s by rw [Int.natCast_add, Int.add_mul]; omega]
    omega
theorem rsum_prod (f : Int → Int) (a : Int) (m : Nat) : ∀ (n : Nat) (x : Int), rsum (fun y => rsum f a m y) (m * a) n x = rsum f a (n * m) x
  | 0, x => by
    rw [Nat.zero_mul]
    rfl
  | n + 1, x => by
    show rsum (fun y => rsum f a m y) (m * a) n x + rsum f a m (x - n * (m * a)) = _
    rw [rsum_prod f a m n x, Nat.succ_mul, rsum_split, show x - ((n * m : Nat) : Int) * a = x - (n : Int) * ((m : Int) * a) by rw [Int.natCast_mul, Int.mul_assoc]]
theorem se_one (i : Ins) (x : Int) : seP [i] x = seI i x := by rw [seP_cons, seP_nil, Int.add_zero]
theorem sh_one (i : Ins) : shP [i] = shI i := by rw [shP_cons, shP_nil, Int.add_zero]
theorem two_reps {b : List Ins} {s m : Int} (hs : 0 ≤ s) (hm : 0 ≤ m) : (∀ x, seP [.rep s b, .rep m b] x = seP [.rep (s + m) b] x) ∧ shP [.rep s b, .rep m b] = shP [.rep (s + m) b] := by
  refine ⟨fun x => ?_, ?_⟩
  · rw [seP_cons, se_one, se_one, seI, seI, seI, shI, show (s + m).toNat = s.toNat + m.toNat by omega, rsum_split, Int.toNat_of_nonneg hs]
  · rw [shP_cons, sh_one, sh_one, shI, shI, shI, Int.add_mul]
theorem no_rep (b : List Ins) : (∀ x, seP [.rep 0 b] x = seP [] x) ∧ shP [.rep 0 b] = shP [] := by
  refine ⟨fun x => ?_, ?_⟩
  · rw [se_one, seI, seP_nil]
    rfl
  · rw [sh_one, shI, shP_nil, Int.zero_mul]
theorem one_rep (b : List Ins) : (∀ x, seP [.rep 1 b] x = seP b x) ∧ shP [.rep 1 b] = shP b := by
  refine ⟨fun x => ?_, ?_⟩
  · rw [se_one, seI]
    show 0 + seP b (x - ((0 : Nat) : Int) * shP b) = _
    rw [show x - ((0 : Nat) : Int) * shP b = x by rw [Int.natCast_zero, Int.zero_mul, Int.sub_zero], Int.zero_add]
  · rw [sh_one, shI, Int.one_mul]
theorem rep_rep {b : List Ins} {s m : Int} (hs : 0 ≤ s) (hm : 0 ≤ m) : (∀ x, seP [.rep s [.rep m b]] x = seP [.rep (s * m) b] x) ∧ shP [.rep s [.rep m b]] = shP [.rep (s * m) b] := by
  refine ⟨fun x => ?_, ?_⟩
  · have e : (fun y => seP [.rep m b] y) = fun y => rsum (fun z => seP b z) (shP b) m.toNat y := funext fun y => by rw [se_one, seI]
    have q := rsum_prod (fun z => seP b z) (shP b) m.toNat s.toNat x
    rw [Int.toNat_of_nonneg hm] at q
    have t : (s * m).toNat = s.toNat * m.toNat := by
      apply Int.ofNat.inj
      show (((s * m).toNat : Nat) : Int) = ((s.toNat * m.toNat : Nat) : Int)
      rw [Int.toNat_of_nonneg (Int.mul_nonneg hs hm), Int.natCast_mul, Int.toNat_of_nonneg hs, Int.toNat_of_nonneg hm]
    rw [se_one, se_one, seI, seI, e, sh_one, shI, t]
    exact q
  · rw [sh_one, sh_one, shI, shI, sh_one, shI, Int.mul_assoc]
end DR
namespace DR
open PySem PySem.Spec PyProof.Rows L2
def sp__law_programS (K : PySem.W.Frag) : Sp := fun vs H Q _ => ∃ (p c : Addr) (most reach rounds : Int) (n : Nat), vs = [.ref p, .int most, .int reach, .int rounds] ∧ 0 ≤ most ∧ most ≤ 50 ∧ 0 ≤ reach ∧ reach ≤ 10 ^ 30 ∧ 0 ≤ rounds ∧ rounds ≤ 10 ^ 30 ∧ PenAt H p c n ∧ n < 2 ^ 38 ∧
  ∀ F xs b H', Kp p H H' → PenAt H' p c (n + 2000) → H' F = some (.lst xs) → IVs K H' xs b → PrS b 2 (13 * most.toNat + 6) rounds 6 → Q (.ref F) H'
end DR
namespace DR
open PySem PySem.Spec PyProof.Rows L2
theorem nf_ends {p : Int} {g : Pol} {F : Int → Int} {t u : Int × Int} (hp : 0 < p) (N : Nf p g F) (h0 : g[0]? = some t) (h1 : g[g.length - 1]? = some u) : Ends1 p F t.1 u.1 := by
  have at_ : ∀ y ∈ g, ¬ p ∣ F y.1 := fun y hy z => by
    have := N.cof y.1
    rw [cf_mem N.asc y hy, Int.emod_eq_zero_of_dvd z] at this
    have := N.rng y hy
    omega
  have out : ∀ x, (∀ y ∈ g, y.1 ≠ x) → p ∣ F x := fun x h => by
    have := N.cof x
    rw [cf_out fun z => by obtain ⟨y, hy, e⟩ := List.mem_map.mp z; exact h y hy e] at this
    exact Int.dvd_of_emod_eq_zero this.symm
  have least : ∀ y ∈ g, t.1 ≤ y.1 := fun y hy => by
    obtain ⟨j, hj⟩ := List.mem_iff_getElem?.mp hy
    rcases Nat.eq_zero_or_pos j with z | z
    · rw [z, h0] at hj
      cases hj
      exact Int.le_refl _
    · obtain ⟨a, ea⟩ := List.getElem?_eq_some_iff.mp h0
      obtain ⟨b, eb⟩ := List.getElem?_eq_some_iff.mp hj
      have := List.pairwise_iff_getElem.mp N.asc 0 j a b z
      rw [ea, eb] at this
      omega
  have most : ∀ y ∈ g, y.1 ≤ u.1 := fun y hy => by
    obtain ⟨j, hj⟩ := List.mem_iff_getElem?.mp hy
    obtain ⟨a, ea⟩ := List.getElem?_eq_some_iff.mp h1
    obtain ⟨b, eb⟩ := List.getElem?_eq_some_iff.mp hj
    by_cases z : j = g.length - 1
    · rw [z, h1] at hj
      cases hj
      exact Int.le_refl _
    · have := List.pairwise_iff_getElem.mp N.asc j (g.length - 1) b a (by omega)
      rw [ea, eb] at this
      omega
  exact ⟨at_ t (List.mem_of_getElem? h0), at_ u (List.mem_of_getElem? h1), fun x hx => out x fun y hy e => by have := least y hy; omega, fun x hx => out x fun y hy e => by have := most y hy; omega⟩
theorem Ends1.uniq {p lo hi lo' hi' : Int} {F : Int → Int} (a : Ends1 p F lo hi) (b : Ends1 p F lo' hi') : lo = lo' ∧ hi = hi' := by
  refine ⟨?_, ?_⟩
  · rcases Int.lt_trichotomy lo lo' with z | z | z
    · exact absurd (b.below lo z) a.atLo
    · exact z
    · exact absurd (a.below lo' z) b.atLo
  · rcases Int.lt_trichotomy hi hi' with z | z | z
    · exact absurd (a.above hi' z) b.atHi
    · exact z
    · exact absurd (b.above hi z) a.atHi
theorem nf_all {p : Int} {F : Int → Int} (N : Nf p [] F) (x : Int) : p ∣ F x := Int.dvd_of_emod_eq_zero (by rw [← N.cof]; rfl)
def sp__law_dueE (K : PySem.W.Frag) : Sp := fun vs H Q _ => ∃ (p : Int) (v : V) (b : List Ins), vs = [.int p, v] ∧ 0 < p ∧ PV K H v b ∧ dpP b < 3 ∧ NP b ∧ RP 1000000 b ∧ exP b ≤ 100000 ∧
  (∀ H', Same H H' → (∀ x, p ∣ seP b x) → Q .non H') ∧ ∀ T H' lo hi, Same H H' → Ends1 p (seP b) lo hi → SqT K H' T [.int lo, .int hi] → Q (.ref T) H'
end DR
namespace DR
open PySem PySem.Spec PyProof.Rows L2
mutual
theorem bki_rp {N : Int} : ∀ i : Ins, RI N i → RI N (bkI i)
  | .step c, _ => by rw [bkI, RI]; trivial
  | .turn c, _ => by rw [bkI, RI]; trivial
  | .rep n b, h => by
    rw [RI] at h
    rw [bkI, RI]
    exact ⟨h.1, bk_rp b h.2⟩
theorem bk_rp {N : Int} : ∀ b : List Ins, RP N b → RP N (bkP b)
  | [], h => by rw [bkP_nil]; exact h
  | i :: r, h => by
    rw [RP_cons] at h
    rw [bkP_cons]
    exact RP_app _ _ (bk_rp r h.2) (by rw [RP_cons]; exact ⟨bki_rp i h.1, by rw [RP]; trivial⟩)
end
mutual
theorem bki_sd : ∀ i : Ins, (sdI (bkI i)).length = (sdI i).length
  | .step c => by rw [bkI, sdI, sdI]
  | .turn c => by rw [bkI, sdI, sdI]
  | .rep n b => by rw [bkI, sdI, sdI, List.length_cons, List.length_cons, bk_sd b]
theorem bk_sd : ∀ b : List Ins, (sdP (bkP b)).length = (sdP b).length
  | [] => by rw [bkP_nil]
  | i :: r => by rw [bkP_cons, sdP_app, sdP_one, sdP_cons, List.length_append, List.length_append, bk_sd r, bki_sd i, Nat.add_comm]
end
theorem PrS.bk {b : List Ins} {k N m : Nat} {R : Int} (h : PrS b k N R m) : PrS (bkP b) k N R m := ⟨⟨⟨by rw [bk_dp]; exact h.r.ok.dp, bk_w b h.r.ok.w, by rw [bk_cn]; exact h.r.ok.cn⟩, bk_np b h.r.nn, bk_rp b h.r.rp⟩, by rw [bk_sd]; exact h.st⟩
theorem ends_near {p lo hi : Int} {b : List Ins} (hd : dpP b < 3) (w : WP b) (n : NP b) (c : cnP b ≤ 1024) (E : Ends1 p (seP b) lo hi) : lo.natAbs < 10 ^ 100 ∧ hi.natAbs < 10 ^ 100 := by
  have big := tr_big 2 b (by omega) w (Nat.le_trans (len_cnP b) c)
  have top : 2 ^ (110 * (2 + 1)) < 10 ^ 100 := by decide +kernel
  have near : ∀ x, ¬ p ∣ seP b x → x.natAbs < 10 ^ 100 := fun x h => Classical.byContradiction fun z => h (by
    rw [seP_far b x n (by omega)]
    exact Int.dvd_zero p)
  exact ⟨near lo E.atLo, near hi E.atHi⟩
theorem far_two (x : Int) : (2 : Int) ∣ seP [.rep (10 ^ 30) [.turn 2]] x := by
  have each : ∀ (n : Nat) (y : Int), (2 : Int) ∣ rsum (fun z => seP [.turn 2] z) (shP [.turn 2]) n y := fun n => by
    induction n with
    | zero => exact fun _ => Int.dvd_zero 2
    | succ n ih =>
      intro y
      refine Int.dvd_add (ih y) ?_
      show (2 : Int) ∣ seP [.turn 2] _
      rw [se_one, seI]
      split
      · exact Int.dvd_refl 2
      · exact Int.dvd_zero 2
  rw [se_one, seI]
  exact each _ x
end DR
namespace DR
open PySem PySem.Spec PyProof.Rows L2
section
variable {X : Cx}
/-- // by a divisor of either sign -/
theorem op_fdivNW : OpR X (binaryOp .FloorDiv) (rI (fun _ j => j ≠ 0 ∧ j.natAbs.log2 < 9000) fun i j => .int (i.fdiv j)) := opI fun i j _ _ _ _ _ hc q => floordiv_int hc.1 q (.inl (PyProof.noPylong_of_log2 hc.2))
theorem wide_divN {j : Int} {b : Nat} (h : j ≠ 0) (hb : j.natAbs < 2 ^ b) (h0 : 0 < b) (h9 : b ≤ 9000) : j ≠ 0 ∧ j.natAbs.log2 < 9000 := ⟨h, Nat.lt_of_lt_of_le (PySem.Flt.log2_lt_of h0 hb) h9⟩
end
theorem wy1_any {s : Int} (hs : s ≠ 0) : ∀ (n : Nat) (e : Int), rsum (fun y => if y = 0 then (1 : Int) else 0) s n e = if e.fmod s = 0 ∧ 0 ≤ e.fdiv s ∧ e.fdiv s < n then 1 else 0
  | 0, e => by
    rw [if_neg (by rintro ⟨_, h1, h2⟩; simp at h2; omega)]
    rfl
  | n + 1, e => by
    show rsum _ s n e + (if e - n * s = 0 then (1 : Int) else 0) = _
    rw [wy1_any hs n e]
    have h := Int.mul_fdiv_add_fmod e s
    by_cases hm : e.fmod s = 0
    · rw [hm, Int.add_zero] at h
      have hk : e - n * s = 0 ↔ e.fdiv s = n := by
        constructor
        · intro z
          have : s * (e.fdiv s - n) = 0 := by rw [Int.mul_sub, h, Int.mul_comm s]; exact z
          rcases Int.mul_eq_zero.mp this with y | y
          · exact absurd y hs
          · omega
        · intro z
          rw [← h, z, Int.mul_comm]
          omega
      by_cases hn : e.fdiv s = n
      · rw [if_neg (by rintro ⟨_, _, h2⟩; omega), if_pos (hk.mpr hn), if_pos ⟨hm, by omega, by omega⟩]
        rfl
      · rw [if_neg (fun z => hn (hk.mp z)), Int.add_zero]
        by_cases h3 : 0 ≤ e.fdiv s ∧ e.fdiv s < n
        · rw [if_pos ⟨hm, h3⟩, if_pos ⟨hm, h3.1, by omega⟩]
        · rw [if_neg (fun z => h3 z.2), if_neg (fun z => h3 ⟨z.2.1, by omega⟩)]
    · have h0 : ¬ (e - n * s = 0) := fun z => hm (by rw [show e = n * s by omega, Int.mul_fmod_left])
      rw [if_neg (fun z => hm z.1), if_neg h0, if_neg (fun z => hm z.1)]
      rfl
theorem wy1_zero : ∀ (n : Nat) (e : Int), rsum (fun y => if y = 0 then (1 : Int) else 0) 0 n e = n * (if e = 0 then 1 else 0)
  | 0, e => by
    rw [Int.natCast_zero, Int.zero_mul]
    rfl
  | n + 1, e => by
    show rsum _ 0 n e + (if e - n * 0 = 0 then (1 : Int) else 0) = _
    rw [wy1_zero n e, Int.mul_zero, Int.sub_zero, Int.natCast_succ, Int.add_mul, Int.one_mul]
def sp__law_termsD (K : PySem.W.Frag) (k : Nat) : Sp := fun vs H Q _ => ∃ (v : V) (b : List Ins), vs = [v] ∧ PV K H v b ∧ dpP b < k ∧ k ≤ 3 ∧ WP b ∧ NP b ∧ cnP b ≤ 1024 ∧
  ∀ D ys ts H', Same H H' → H D = none → H' D = some (.lst ys) → LTVs K H' ys ts → (∀ x, tvs ts x = seP b x) → (∀ t ∈ ts, LOk (dpP b + 1) t) → ts.length ≤ cnP b → Q (.ref D) H'
def sp__law_due (K : PySem.W.Frag) : Sp := fun vs H Q _ => ∃ (p : Int) (v : V) (x : Int) (b : List Ins), vs = [.int p, v, .int x] ∧ 0 < p ∧ PV K H v b ∧ dpP b < 2 ∧ WP b ∧ NP b ∧ cnP b ≤ 1024 ∧ ∀ H', Same H H' → Q (.int (seP b x % p)) H'
end DR
namespace DR
open PySem PySem.Spec PyProof.Rows L2
/-! ### any of a list of ints; an entry of a list that is added to -/
theorem truth_ints {prog : Program} {w : World} {A : Around} {ns : List Int} {its : List Value} (rv : Vals (ns.map V.int) its) :
    TruthOf prog w A (fun i v => its.toArray[i]? = some v) (fun i => (ns.map fun x => x != 0).getD i false) := fun i v s Q E hv hq => by
  have hv' : its[i]? = some v := List.getElem?_toArray ▸ hv
  have hlen : i < ns.length := by
    have h1 := rv.length
    rw [List.length_map] at h1
    rw [h1]
    exact (List.getElem?_eq_some_iff.mp hv').1
  have gx : (ns.map V.int)[i]? = some (.int ns[i]) := by
    rw [List.getElem?_map, List.getElem?_eq_getElem hlen]
    rfl
  obtain ⟨u, hu, ru⟩ := rv.get gx
  rw [hv'] at hu
  cases hu
  obtain ⟨t, rfl⟩ := ru
  have hg : (ns.map fun x => x != 0).getD i false = (ns[i] != 0) := by
    rw [List.getD_eq_getElem?_getD, List.getElem?_map, List.getElem?_eq_getElem hlen]
    rfl
  have hq' : Q ((ns.map fun x => x != 0).getD i false) s := hq
  rw [hg] at hq'
  exact truthy_int hq'
def rAnyI (K : PySem.W.Frag) : List V → Hp → VK → Prop := fun vs H Q => ∃ (a : Addr) (ns : List Int), vs = [V.ref a] ∧ SqL K H a (ns.map V.int) ∧ Q (.bl ((ns.map fun x => x != 0).any id)) H
theorem cr_anyI {X : Cx} (calm : X.calm = true) : CallR X (.builtin "any") (rAnyI X.K) := by
  intro pins now σ G given us K I r told
  obtain ⟨l, ns, rfl, seen, told⟩ := told
  obtain ⟨items, alike, there, _⟩ := I.list seen
  have count : items.length = ns.length := by simpa using alike.length.symm
  rw [Vals.ref1 r]
  refine call_any_walk (iter_any there.isList ?_)
  rintro mid rfl walk apart
  have over := Walks.list (prog := X.prog) (w := X.w) (A := X.A.in1) (I.ok.hd calm) _ l apart items.toArray
  refine ⟨_, _, _, _, _, _, _, rfl, over, walk, truth_ints alike, fun g toks kept => ⟨.bl _, G, ?_, ?_, told⟩⟩
  · refine I.kept fun b u old => kept b u (fun among => ?_) (Heap.get?_push_of_some _ old)
    have e := List.mem_singleton.mp among
    have below := Heap.lt_size old
    rw [e] at below
    exact absurd below (Nat.lt_irrefl _)
  · have range : (List.range items.toArray.size).any (fun i => (ns.map fun x => x != 0).getD i false) = (ns.map fun x => x != 0).any id := by
      rw [← L2.any_range, List.size_toArray, List.length_map, count]
    exact congrArg Value.bool range
def rGetP (K : PySem.W.Frag) : V → V → Hp → VK → Prop := fun o i H Q => ∃ (p : Addr) (xs : List V) (n : Nat) (v : V), o = .ref p ∧ i = .int (n : Int) ∧ SqL K H p xs ∧ xs[n]? = some v ∧ Q v H
theorem get_listP {X : Cx} : PGet X (rGetP X.K) := by
  intro pins s σ H o i ov iv Q I ro ri h
  obtain ⟨p, xs, n, v, rfl, rfl, hq, he, q⟩ := h
  cases ro
  obtain ⟨t, rfl⟩ := ri
  obtain ⟨items, r, pl, _⟩ := I.list hq
  obtain ⟨w, ew, rw'⟩ := r.get he
  have hn : n < xs.length := (List.getElem?_eq_some_iff.mp he).1
  have h63 := line63
  exact wpAny_getItem_list pl.isList (by omega) (by omega) (by rw [Int.toNat_natCast]; simpa using ew) ⟨v, H, I, rw', q⟩
/-! ### comprehensions of ints -/
theorem lcInt {ta : TA} {σ : L2.St} {H : Hp} {vs : List Nat} {i : Nat} {te : TE} {Q : VK} (F : Nat → Int) (n : Nat) (hn : n ≤ 100000) (ha : ∀ R : List V → Hp → Prop, R [V.int (n : Int)] H → ta σ H R)
    (hw : ∀ x, wipe ((wipe σ vs).set i (some x)) vs = wipe σ vs)
    (he : ∀ (m : Nat), m < n → ∀ H2, Same H H2 → ∀ S : VK, (∀ H3, Same H2 H3 → S (.int (F m)) H3) → te ((wipe σ vs).set i (some (.int (0 + (m : Int))))) H2 S)
    (k : ∀ D H2, H D = none → Same H H2 → H2 D = some (.lst (((List.range n).map F).map V.int)) → Q (.ref D) H2) : tLc (iRng1 ta) (gName i) tYes te vs σ H Q := by
  refine ha _ ?_
  refine ⟨(n : Int), rfl, by omega, by omega, fun D nD => lc_range (lo := 0) (n := ((n : Int)).toNat) (fun m H2 => H2 D = some (.lst (((List.range m).map F).map V.int)) ∧ Same H H2) ⟨upd_same, same_new nD⟩ ?_ ?_⟩
  · rintro m H2 hm ⟨hD, s2⟩
    rw [Int.toNat_natCast] at hm
    refine ⟨hw _, ?_⟩
    dsimp only [tYes]
    rw [if_pos rfl]
    refine he m hm H2 s2 _ fun H3 s3 => ?_
    refine ⟨_, s3 _ _ hD, sl_lt (by rw [List.length_map, List.length_map, List.length_range]; omega), ?_, fun x o ex => ?_⟩
    · rw [upd_same, List.range_succ, List.map_append, List.map_append]
      rfl
    · rw [upd_ne (ne_of_none ex nD)]
      exact s3 _ _ (s2 _ _ ex)
  · rintro H2 ⟨hD, s2⟩
    rw [Int.toNat_natCast] at hD
    exact k D H2 nD s2 hD
theorem lcZipI {K : PySem.W.Frag} {ta : TA} {σ : L2.St} {H : Hp} {vs : List Nat} {i j : Nat} {te : TE} {Q : VK} {a b : Addr} {ns ms : List Int} (F : Int → Int → Int) (ha : ∀ R : List V → Hp → Prop, R [V.ref a, V.ref b] H → ta σ H R) (h1 : SqL K H a (ns.map V.int)) (h2 : SqL K H b (ms.map V.int)) (hl : ns.length = ms.length) (hn : ns.length ≤ 100000)
    (hw : ∀ x y, wipe (((wipe σ vs).set i (some x)).set j (some y)) vs = wipe σ vs)
    (he : ∀ x ∈ ns, ∀ y ∈ ms, ∀ H2, Same H H2 → ∀ S : VK, S (.int (F x y)) H2 → te (((wipe σ vs).set i (some (.int x))).set j (some (.int y))) H2 S)
    (k : ∀ D H2, H D = none → Same H H2 → H2 D = some (.lst ((List.zipWith F ns ms).map V.int)) → Q (.ref D) H2) : tLc (RZ.iZipA K ta) (gTup K 2 (gCons (gName i) (gCons (gName j) gNil))) tYes te vs σ H Q := by
  refine ha _ ?_
  refine ⟨a, b, _, _, rfl, .inl ⟨h1, h2, fun D nD => ?_⟩⟩
  refine lc_it (walk_zip (K := K) (a := a) (b := b) (xs := ns.map V.int) (ys := ms.map V.int) (n := ns.length) (by rw [List.length_map, List.length_map]; omega)) (fun m H2 => H2 D = some (.lst (((List.zipWith F ns ms).take m).map V.int)) ∧ Same H H2) ⟨upd_same, same_new nD⟩ ?_ ?_ ?_
  · rintro m H2 _ ⟨_, s2⟩
    exact ⟨same_l s2 h1, same_l s2 h2⟩
  · rintro m v H2 H3 hm ⟨hD, s2⟩ ⟨T, x, y, rfl, nT, rfl, gx, gy⟩
    have hm2 : m < ms.length := by omega
    have gx : (ns.map V.int)[m]? = some x := gx
    have gy : (ms.map V.int)[m]? = some y := gy
    have ex : x = .int ns[m] := by
      rw [List.getElem?_map, List.getElem?_eq_getElem hm] at gx
      exact (Option.some.inj gx).symm
    have ey : y = .int ms[m] := by
      rw [List.getElem?_map, List.getElem?_eq_getElem hm2] at gy
      exact (Option.some.inj gy).symm
    subst ex
    subst ey
    have s3 := same_new nT (o := HO.tup [V.int ns[m], V.int ms[m]])
    refine ⟨T, _, rfl, SqT.of upd_same, rfl, _, _, rfl, ?_⟩
    refine ⟨_, _, rfl, rfl, hw _ _, ?_⟩
    dsimp only [tYes]
    rw [if_pos rfl]
    refine he _ (List.getElem_mem hm) _ (List.getElem_mem hm2) _ (s2.trans s3) _ ?_
    refine ⟨_, s3 _ _ hD, sl_lt (by rw [List.length_map, List.length_take]; omega), ?_, fun x o ex => ?_⟩
    · have hz : m < (List.zipWith F ns ms).length := by rw [List.length_zipWith]; omega
      rw [upd_same, List.take_succ_eq_append_getElem hz, List.map_append]
      show _ = some (HO.lst (_ ++ [V.int (List.zipWith F ns ms)[m]]))
      rw [List.getElem_zipWith]
    · rw [upd_ne (ne_of_none ex nD)]
      exact s3 _ _ (s2 _ _ ex)
  · rintro H2 ⟨hD, s2⟩
    have : (List.zipWith F ns ms).take ns.length = List.zipWith F ns ms := List.take_of_length_le (by rw [List.length_zipWith]; omega)
    rw [this] at hD
    exact k D H2 nD s2 hD
end DR
namespace DR
open PySem PySem.Spec PyProof.Rows L2
/-! ### two rounds, counted one by one -/
theorem rsum_filter (p : Int → Bool) (a d : Int) : ∀ N : Nat, rsum (fun y => if p y = true then (1 : Int) else 0) a N d = ((((List.range N).map fun k : Nat => d - (k : Int) * a).filter p).length : Int)
  | 0 => rfl
  | N + 1 => by
    rw [List.range_succ, List.map_append, List.filter_append, List.length_append]
    show rsum _ a N d + _ = _
    rw [rsum_filter p a d N, List.map_cons, List.map_nil]
    have e1 : (if p (d - (N : Int) * a) = true then (1 : Int) else 0) = ((([d - (N : Int) * a] : List Int).filter p).length : Int) := by
      cases h : p (d - (N : Int) * a) with
      | true => rw [List.filter_cons_of_pos h, if_pos rfl]; rfl
      | false => rw [List.filter_cons_of_neg (by rw [h]; decide), if_neg (by decide)]; rfl
    show _ + (if p (d - (N : Int) * a) = true then (1 : Int) else 0) = _
    rw [e1]
    rfl
def onB (b m : Int) (e : Int) : Bool := decide (e % b = 0) && (decide (0 ≤ e / b) && decide (e / b < m))
theorem on_one {b : Int} (hb : 0 < b) {m : Int} (hm : 0 ≤ m) (e : Int) : rsum (fun y => if y = 0 then (1 : Int) else 0) b m.toNat e = if onB b m e = true then 1 else 0 := by
  rw [wy_one hb]
  have hm2 : ((m.toNat : Nat) : Int) = m := Int.toNat_of_nonneg hm
  rw [hm2]
  congr 1
  unfold onB
  simp only [Bool.and_eq_true, decide_eq_true_eq]
  apply propext
  constructor
  · rintro ⟨h1, h2, h3⟩
    refine ⟨Int.emod_eq_zero_of_dvd h1, Int.ediv_nonneg h2 (by omega), ?_⟩
    exact Int.ediv_lt_of_lt_mul hb h3
  · rintro ⟨h1, h2, h3⟩
    have e1 := Int.emod_add_mul_ediv e b
    rw [h1, Int.zero_add] at e1
    refine ⟨⟨_, e1.symm⟩, ?_, ?_⟩
    · rw [← e1]
      exact Int.mul_nonneg (by omega) h2
    · rw [← e1, Int.mul_comm]
      exact Int.mul_lt_mul_of_pos_right h3 hb
theorem wy_list {n a m b d : Int} (hb : 0 < b) (hm : 0 ≤ m) : wy [(n, a), (m, b)] d = ((((List.range n.toNat).map fun k : Nat => d - (k : Int) * a).filter (onB b m)).length : Int) := by
  rw [← rsum_filter]
  show rsum (fun y => rsum (fun z => if z = 0 then (1 : Int) else 0) b m.toNat y) a n.toNat d = _
  refine rsum_congr (fun y => ?_) _ _
  exact on_one hb hm y
/-! ### two rounds, by the least place -/
theorem low_high {P r lo hi : Int} (hP : 0 < P) : (if lo + (r - lo) % P ≤ hi then (hi - (lo + (r - lo) % P)) / P + 1 else 0) = max 0 ((hi - r) / P - (lo - 1 - r) / P) := by
  have m0 := Int.emod_nonneg (r - lo) (by omega : P ≠ 0)
  have m1 := Int.emod_lt_of_pos (r - lo) hP
  have e := Int.emod_add_mul_ediv (r - lo) P
  generalize (r - lo) % P = x at m0 m1 e ⊢
  generalize (r - lo) / P = k at e ⊢
  have e1 : (hi - r) / P = (hi - (lo + x)) / P - k := by
    rw [show hi - r = (hi - (lo + x)) + (-k) * P by rw [Int.neg_mul, Int.mul_comm k P]; omega, Int.add_mul_ediv_right _ _ (by omega)]
    omega
  have e2 : (lo - 1 - r) / P = -1 - k := by
    rw [show lo - 1 - r = (-1 - x) + (-k) * P by rw [Int.neg_mul, Int.mul_comm k P]; omega, Int.add_mul_ediv_right _ _ (by omega)]
    have : (-1 - x) / P = -1 := by
      have := Int.ediv_emod_unique hP (a := -1 - x) (r := P - 1 - x) (q := -1)
      exact (this.mpr ⟨by omega, by omega, by omega⟩).1
    omega
  rw [e1, e2]
  generalize hq : (hi - (lo + x)) / P = q
  split
  · rename_i h
    have : 0 ≤ q := by rw [← hq]; exact Int.ediv_nonneg (by omega) (by omega)
    omega
  · rename_i h
    have : q < 0 := by rw [← hq]; exact Int.ediv_neg_of_neg_of_pos (by omega) hP
    omega
theorem pairs_by {n a m b d g x : Int} (hn : 1 ≤ n) (hm : 1 ≤ m) (ha : 0 < a) (hb : 0 < b) (hg : 0 < g) (ga : g ∣ a) (gb : g ∣ b) (gd : g ∣ d) (hx : b / g ∣ a / g * x - 1) :
    wy [(n, a), (m, b)] d = (if max 0 (0 - ((m - 1) * b - d) / a) + (d / g * x % (b / g) - max 0 (0 - ((m - 1) * b - d) / a)) % (b / g) ≤ min (n - 1) (d / a) then (min (n - 1) (d / a) - (max 0 (0 - ((m - 1) * b - d) / a) + (d / g * x % (b / g) - max 0 (0 - ((m - 1) * b - d) / a)) % (b / g))) / (b / g) + 1 else 0) := by
  have hP : 0 < b / g := by
    obtain ⟨P, e⟩ := gb
    rw [e, Int.mul_ediv_cancel_left P (by omega)]
    exact Int.pos_of_mul_pos_right (by omega : 0 < g * P) (by omega)
  have hf : b ∣ a * x - g := by
    obtain ⟨P, eb⟩ := gb
    obtain ⟨a', ea⟩ := ga
    rw [eb, Int.mul_ediv_cancel_left P (by omega), ea, Int.mul_ediv_cancel_left a' (by omega)] at hx
    rw [eb, ea, show g * a' * x - g = g * (a' * x - 1) by rw [Int.mul_sub, Int.mul_one, Int.mul_assoc]]
    exact Int.mul_dvd_mul_left g hx
  have h := wy_two (m := m.toNat) ha hb hg ga gb hf gd n.toNat
  have hm2 : ((m.toNat : Nat) : Int) = m := Int.toNat_of_nonneg (by omega)
  have hn2 : ((n.toNat : Nat) : Int) = n := Int.toNat_of_nonneg (by omega)
  rw [hm2] at h
  have h2 : wy [(n, a), (m, b)] d = cnt (-((b * (m - 1) - d) / a)) (d / a) (b / g) (d / g * x % (b / g)) n.toNat := h
  rw [h2, cnt_eq hP, hn2, low_high hP, Int.zero_sub, Int.mul_comm b (m - 1)]
def sp__law_common : Sp := fun vs H Q _ => ∃ (a b : Int), vs = [.int a, .int b] ∧ 0 < a ∧ 0 < b ∧ a.natAbs < 2 ^ 400 ∧ b.natAbs < 2 ^ 400 ∧ ∀ g, 0 < g → g ∣ a → g ∣ b → (∀ c, c ∣ a → c ∣ b → c ∣ g) → Q (.int g) H
def sp__law_pairs (K : PySem.W.Frag) : Sp := fun vs H Q _ => ∃ (x y : V) (n a m b d : Int), vs = [x, y, .int d] ∧ IsPr K H x (n, a) ∧ IsPr K H y (m, b) ∧ 1 ≤ n ∧ n ≤ 2 ^ 100 ∧ 1 ≤ m ∧ m ≤ 2 ^ 100 ∧ 1 ≤ a ∧ a ≤ 2 ^ 331 ∧ 1 ≤ b ∧ b ≤ 2 ^ 331 ∧ d.natAbs < 2 ^ 500 ∧
  ∀ H', Same H H' → Q (.int (wy [(n, a), (m, b)] d)) H'
def sp__law_mod_inverse : Sp := fun vs H Q _ => ∃ (n m : Int), vs = [.int n, .int m] ∧ 0 < m ∧ n.natAbs < 2 ^ 400 ∧ m.natAbs < 2 ^ 400 ∧ (∀ c, c ∣ n → c ∣ m → c ∣ 1) ∧ ∀ x H', Same H H' → 0 ≤ x → x < m → m ∣ n * x - 1 → Q (.int x) H'
theorem co_div {a b g : Int} (hg : 0 < g) (ga : g ∣ a) (gb : g ∣ b) (hc : ∀ c, c ∣ a → c ∣ b → c ∣ g) : ∀ c, c ∣ a / g → c ∣ b / g → c ∣ 1 := fun c h1 h2 => by
  obtain ⟨a', ea⟩ := ga
  obtain ⟨b', eb⟩ := gb
  rw [ea, Int.mul_ediv_cancel_left a' (by omega)] at h1
  rw [eb, Int.mul_ediv_cancel_left b' (by omega)] at h2
  have h := hc (g * c) (by rw [ea]; exact Int.mul_dvd_mul_left g h1) (by rw [eb]; exact Int.mul_dvd_mul_left g h2)
  obtain ⟨k, ek⟩ := h
  refine ⟨k, ?_⟩
  have : g * 1 = g * (c * k) := by rw [Int.mul_one, ← Int.mul_assoc]; exact ek
  exact Int.eq_of_mul_eq_mul_left (by omega) this
/-- [x for x in a list of ints if ..] -/
theorem lcFilI {K : PySem.W.Frag} {tv' : TE} {σ : L2.St} {H : Hp} {vs : List Nat} {i : Nat} {tt : TT} {te : TE} {Q : VK} {a : Addr} {ns : List Int} (p : Int → Bool) (hv : ∀ R : VK, R (.ref a) H → tv' σ H R) (h1 : SqL K H a (ns.map V.int)) (hn : ns.length ≤ 100000)
    (hw : ∀ x, wipe ((wipe σ vs).set i (some x)) vs = wipe σ vs)
    (ht : ∀ x ∈ ns, ∀ H2, Same H H2 → ∀ S : Bool → Hp → Prop, S (p x) H2 → tt ((wipe σ vs).set i (some (.int x))) H2 S)
    (he : ∀ x H2 (S : VK), S (.int x) H2 → te ((wipe σ vs).set i (some (.int x))) H2 S)
    (k : ∀ D H2, H D = none → Same H H2 → H2 D = some (.lst ((ns.filter p).map V.int)) → Q (.ref D) H2) : tLc (iList K tv') (gName i) tt te vs σ H Q := by
  refine hv _ ?_
  refine ⟨a, rfl, ⟨_, h1⟩, fun D nD => ?_⟩
  refine lc_it (walk_list (K := K) (a := a) (xs := ns.map V.int)) (fun m H2 => H2 D = some (.lst (((ns.take m).filter p).map V.int)) ∧ Same H H2) ⟨upd_same, same_new nD⟩ ?_ ?_ ?_
  · rintro m H2 _ ⟨_, s2⟩
    exact same_l s2 h1
  · rintro m v H2 H3 hm ⟨hD, s2⟩ ⟨rfl, gv⟩
    rw [List.length_map] at hm
    have ev : v = .int ns[m] := by
      rw [List.getElem?_map, List.getElem?_eq_getElem hm] at gv
      exact (Option.some.inj gv).symm
    subst ev
    refine ⟨hw _, ?_⟩
    refine ht _ (List.getElem_mem hm) _ s2 _ ?_
    have et : (ns.take (m + 1)).filter p = (ns.take m).filter p ++ [ns[m]].filter p := by rw [List.take_succ_eq_append_getElem hm, List.filter_append]
    cases hp : p ns[m] with
    | true =>
      rw [if_pos rfl]
      refine he _ _ _ ?_
      have hlen := List.length_filter_le p (ns.take m)
      rw [List.length_take] at hlen
      refine ⟨_, hD, sl_lt (by rw [List.length_map]; omega), ?_, fun x o ex => ?_⟩
      · rw [upd_same, et, List.filter_cons_of_pos hp, List.map_append]
        rfl
      · rw [upd_ne (ne_of_none ex nD)]
        exact s2 _ _ ex
    | false =>
      rw [if_neg (by decide)]
      refine ⟨?_, s2⟩
      rw [hD, et, List.filter_cons_of_neg (by rw [hp]; decide)]
      show _ = some (HO.lst (((ns.take m).filter p ++ []).map V.int))
      rw [List.append_nil]
  · rintro H2 ⟨hD, s2⟩
    rw [List.length_map, List.take_length] at hD
    exact k D H2 nD s2 hD
/-! ### rounds of any stride -/
def RsAny (rs : Pol) : Prop := ∀ r ∈ rs, 1 ≤ r.1 ∧ r.1 ≤ 2 ^ 100 ∧ r.2.natAbs ≤ 2 ^ 331
def sp__law_ways (K : PySem.W.Frag) : Sp := fun vs H Q _ => ∃ (v : V) (rs : Pol) (d : Int), vs = [v, .int d] ∧ TPol K H v rs ∧ rs.length ≤ 2 ∧ RsAny rs ∧ d.natAbs < 2 ^ 395 ∧ ∀ H', Same H H' → Q (.int (wy rs d)) H'
theorem wy_mid (ls rest : Pol) (r : Int × Int) (d : Int) : wy (ls ++ r :: rest) d = wy (r :: (ls ++ rest)) d := wy_perm List.perm_middle d
theorem wy_still {n : Int} (hn : 1 ≤ n) (ls rest : Pol) (d : Int) : wy (ls ++ (n, 0) :: rest) d = n * wy (ls ++ rest) d := by
  rw [wy_mid, wy_cons, rsum_const]
  have : ((n.toNat : Nat) : Int) = n := Int.toNat_of_nonneg (by omega)
  show ((n.toNat : Nat) : Int) * _ = _
  rw [this]
theorem wy_turn {n s : Int} (hn : 1 ≤ n) (ls rest : Pol) (d : Int) : wy (ls ++ (n, s) :: rest) d = wy (ls ++ (n, -s) :: rest) (d - (n - 1) * s) := by
  rw [wy_mid, wy_mid, wy_cons, wy_cons]
  obtain ⟨k, hk⟩ : ∃ k : Nat, n.toNat = k + 1 := ⟨n.toNat - 1, by omega⟩
  have hk2 : n - 1 = (k : Int) := by omega
  show rsum _ s n.toNat d = rsum _ (-s) n.toNat _
  rw [hk, rsum_back, hk2]
theorem wy_end {ls : Pol} {m s : Int} (hs : 0 < s) (hm : 0 ≤ m) (d : Int) : wy [(m, s)] d = if onB s m d = true then 1 else 0 := on_one hs hm d
def sp__law_full_programR (K : PySem.W.Frag) : Sp := fun vs H Q _ => ∃ (p c : Addr) (n : Nat), vs = [.ref p] ∧ PenAt H p c n ∧ n < 2 ^ 37 ∧
  ∀ F xs b H', Kp p H H' → PenAt H' p c (n + 500) → H' F = some (.lst xs) → IVs K H' xs b → PrR b 2 1000 (10 ^ 31) → Q (.ref F) H'
def sp__law_nested (K : PySem.W.Frag) : Sp := fun vs H Q _ => ∃ (p c : Addr) (n : Nat), vs = [.ref p] ∧ PenAt H p c n ∧ n < 2 ^ 37 ∧
  ∀ F xs b H', Kp p H H' → PenAt H' p c (n + 100) → H' F = some (.lst xs) → IVs K H' xs b → PrR b 2 100 (10 ^ 31) → Q (.ref F) H'
def sp__law_value (K : PySem.W.Frag) : Sp := fun vs H Q _ => ∃ (p : Int) (v : V) (x : Int) (b : List Ins), vs = [.int p, v, .int x] ∧ 0 < p ∧ PV K H v b ∧ dpP b < 3 ∧ WP b ∧ NP b ∧ cnP b ≤ 1024 ∧ x.natAbs ≤ 2 ^ 340 ∧ ∀ H', Same H H' → Q (.int (seP b x % p)) H'
theorem wy_ltA : ∀ {rs : Pol} (_ : RsAny rs) (_ : rs.length ≤ 2) (d : Int), (wy rs d).natAbs < 2 ^ 201
  | rs, h, hl, d => by
    have hb := wy_bd rs d
    have e : ∀ r ∈ rs, (r.1.toNat : Int) ≤ 2 ^ 100 := fun r hr => by
      have := h r hr
      omega
    cases rs with
    | nil => rw [wy_nil]; split <;> decide
    | cons r l =>
      cases l with
      | nil =>
        have h1 : wy [r] d ≤ (r.1.toNat : Int) * 1 := hb.2
        have h2 := e r List.mem_cons_self
        have h3 := hb.1
        have h4 : (2 : Nat) ^ 100 < 2 ^ 201 := by decide +kernel
        omega
      | cons r2 l2 =>
        have e0 : l2 = [] := by
          cases l2 with
          | nil => rfl
          | cons _ _ => simp at hl
        subst e0
        have h1 : wy [r, r2] d ≤ (r.1.toNat : Int) * ((r2.1.toNat : Int) * 1) := hb.2
        have h2 := e r List.mem_cons_self
        have h2' := e r2 (List.mem_cons_of_mem _ List.mem_cons_self)
        have h5 : (r.1.toNat : Int) * ((r2.1.toNat : Int) * 1) ≤ 2 ^ 100 * 2 ^ 100 := Int.mul_le_mul h2 (by omega) (by omega) (by decide)
        have h3 := hb.1
        have h4 : (2 : Int) ^ 100 * 2 ^ 100 < 2 ^ 201 := by decide +kernel
        omega
/-- [an int for co, pl, rounds in a list of terms] -/
theorem lcLT {K : PySem.W.Frag} {a : Addr} {xs : List V} {ts : List Tm} {σ : L2.St} {H : Hp} {vs : List Nat} {i j l : Nat} {te tv' : TE} {Q : VK} (G : Tm → Int) (hv : ∀ R : VK, R (.ref a) H → tv' σ H R) (hs : SqL K H a xs) (hP : LTVs K H xs ts) (hl : ts.length ≤ 100000)
    (hw : ∀ x y z, wipe ((((wipe σ vs).set i (some x)).set j (some y)).set l (some z)) vs = wipe σ vs)
    (he : ∀ t ∈ ts, ∀ x H2, Same H H2 → TPol K H2 x t.rs → ∀ R : VK, (∀ H3, Same H2 H3 → R (.int (G t)) H3) → te ((((wipe σ vs).set i (some (.int t.co))).set j (some (.int t.pl))).set l (some x)) H2 R)
    (k : ∀ D H2, H D = none → Same H H2 → H2 D = some (.lst ((ts.map G).map V.int)) → Q (.ref D) H2) : tLc (iList K tv') (gTup K 3 (gCons (gName i) (gCons (gName j) (gCons (gName l) gNil)))) tYes te vs σ H Q := by
  refine hv _ ⟨a, rfl, ⟨_, hs⟩, fun D nD => lc_list (K := K) (a := a) (xs := xs) (fun m H2 => Same H H2 ∧ H2 D = some (.lst (((ts.take m).map G).map V.int))) ⟨same_new nD, upd_same⟩ (fun m H2 _ g => same_l g.1 hs) ?_ ?_⟩
  · rintro m x H2 hm ⟨s2, h2⟩
    obtain ⟨t, ht, b, y, rfl, hb, hy⟩ := hP.get hm
    refine ⟨b, _, rfl, same_t s2 hb, rfl, _, _, rfl, _, _, rfl, _, _, rfl, rfl, hw _ _ _, ?_⟩
    dsimp only [tYes]
    rw [if_pos rfl]
    have hm2 : m < ts.length := (List.getElem?_eq_some_iff.mp ht).1
    refine he t (List.mem_of_getElem? ht) y H2 s2 (hy.tp (Same.tp s2)) _ fun H3 s3 => ⟨_, s3 _ _ h2, sl_lt (by rw [List.length_map, List.length_map, List.length_take]; omega), same_mut (s2.trans s3) nD, ?_⟩
    rw [upd_same, take_snoc ht, List.map_append, List.map_append]
    rfl
  · rintro H2 ⟨s2, h2⟩
    rw [hP.len, List.take_length] at h2
    exact k D H2 nD s2 h2
theorem WP_takeN : ∀ (b : List Ins) (j : Nat), WP b → WP (b.take j)
  | _, 0, _ => by rw [List.take_zero, WP]; trivial
  | [], _ + 1, h => by rw [List.take_nil]; exact h
  | i :: r, j + 1, h => by
    rw [WP] at h
    rw [List.take_succ_cons, WP]
    exact ⟨h.1, WP_takeN r j h.2⟩
theorem dpP_takeN (b : List Ins) (j : Nat) : dpP (b.take j) ≤ dpP b := by
  have e := dpP_app (b.take j) (b.drop j)
  rw [List.take_append_drop] at e
  omega
theorem sh_take {b : List Ins} {k : Nat} (h : dpP b < k) (hk : k ≤ 3) (w : WP b) (l : b.length ≤ 1024) (j : Nat) : (shP (b.take j)).natAbs ≤ 2 ^ 331 := by
  have h1 := dpP_takeN b j
  exact Nat.le_of_lt (sh_lt (k := k) (by omega) hk (WP_takeN b j w) (by rw [List.length_take]; omega))
structure LOkP (k : Nat) (t : Tm) : Prop where
  co : t.co.natAbs ≤ 2 ^ 100
  len : t.rs.length + 1 ≤ k
  rs : ∀ r ∈ t.rs, 1 ≤ r.1 ∧ r.1 ≤ 2 ^ 100 ∧ r.2.natAbs ≤ 2 ^ 331
  at_ : t.pl.natAbs ≤ k * 2 ^ 331
def sp__law_termsP (K : PySem.W.Frag) (k : Nat) : Sp := fun vs H Q _ => ∃ (v : V) (b : List Ins), vs = [v] ∧ PV K H v b ∧ dpP b < k ∧ k ≤ 3 ∧ WP b ∧ NP b ∧ cnP b ≤ 1024 ∧
  ∀ D ys ts H', Same H H' → H D = none → H' D = some (.lst ys) → LTVs K H' ys ts → (∀ x, tvs ts x = seP b x) → (∀ t ∈ ts, LOkP (dpP b + 1) t) → ts.length ≤ cnP b → Q (.ref D) H'
end DR
/-! ### drawn programs cut in nine, factors on turns, places touched (k42, k39) -/
namespace DR
open PySem PySem.Spec PyProof.Rows L2
/-- the j-th cut -/
def cutN (cu : List Int) (j : Nat) : Nat := (cu.getD j 0).toNat
theorem cuts_end {ns : List Int} (z : Int) {n : Nat} (h : ns.length = n) : cutN (0 :: (ns ++ [z])) (n + 1) = z.toNat := by
  unfold cutN
  rw [List.getD_cons_succ, List.getD_eq_getElem?_getD, List.getElem?_append_right (by omega), h, Nat.sub_self]
  rfl
theorem cuts_up {ns : List Int} {z : Int} {n : Nat} (so : ns.Pairwise (· ≤ ·)) (hb : ∀ r ∈ ns, 0 ≤ r ∧ r ≤ z) (hz : 0 ≤ z) (h : ns.length = n) : ∀ j, j < n + 1 → cutN (0 :: (ns ++ [z])) j ≤ cutN (0 :: (ns ++ [z])) (j + 1) := by
  have all : (0 :: (ns ++ [z]) : List Int).Pairwise (· ≤ ·) := List.pairwise_cons.mpr ⟨fun x hx => by
    rcases List.mem_append.mp hx with g | g
    · exact (hb x g).1
    · cases List.mem_singleton.mp g
      exact hz, List.pairwise_append.mpr ⟨so, List.pairwise_singleton _ _, fun a ha c hc => by
    cases List.mem_singleton.mp hc
    exact (hb a ha).2⟩⟩
  intro j hj
  have l : (0 :: (ns ++ [z]) : List Int).length = n + 2 := by simp [h]
  have := List.pairwise_iff_getElem.mp all j (j + 1) (by omega) (by omega) (by omega)
  unfold cutN
  rw [List.getD_eq_getElem?_getD, List.getElem?_eq_getElem (by omega), List.getD_eq_getElem?_getD, List.getElem?_eq_getElem (by omega)]
  exact Int.toNat_le_toNat this
/-- a slice between two cuts is no longer than they are apart -/
theorem cut_len {cu : List Int} {j : Nat} (hj : j + 1 < cu.length) (pos : ∀ r ∈ cu, 0 ≤ r) (up : cutN cu j ≤ cutN cu (j + 1)) (n : Nat) : HT.sIx n n (some cu[j + 1]) - HT.sIx n 0 (some cu[j]) ≤ cutN cu (j + 1) - cutN cu j := by
  have p1 := pos _ (List.getElem_mem (show j < cu.length by omega))
  have p2 := pos _ (List.getElem_mem hj)
  have e1 : HT.sIx n n (some cu[j + 1]) = min (cutN cu (j + 1)) n := by
    unfold HT.sIx cutN
    rw [List.getD_eq_getElem?_getD, List.getElem?_eq_getElem hj]
    exact if_neg (by omega)
  have e2 : HT.sIx n 0 (some cu[j]) = min (cutN cu j) n := by
    unfold HT.sIx cutN
    rw [List.getD_eq_getElem?_getD, List.getElem?_eq_getElem (show j < cu.length by omega)]
    exact if_neg (by omega)
  rw [e1, e2]
  omega
mutual
def tuI (f : Int) : Ins → Ins
  | .step c => .step c
  | .turn c => .turn (c * f)
  | .rep n b => .rep n (tuP f b)
def tuP (f : Int) : List Ins → List Ins
  | [] => []
  | i :: r => tuI f i :: tuP f r
end
theorem tuP_nil (f : Int) : tuP f [] = [] := by rw [tuP]
theorem tuP_cons (f : Int) (i : Ins) (r : List Ins) : tuP f (i :: r) = tuI f i :: tuP f r := by rw [tuP]
theorem tuP_app (f : Int) : ∀ a b : List Ins, tuP f (a ++ b) = tuP f a ++ tuP f b
  | [], b => by rw [tuP_nil]; rfl
  | i :: r, b => by
    rw [List.cons_append, tuP_cons, tuP_cons, tuP_app f r b]
    rfl
theorem tu_len (f : Int) : ∀ b : List Ins, (tuP f b).length = b.length
  | [] => by rw [tuP_nil]
  | i :: r => by rw [tuP_cons, List.length_cons, List.length_cons, tu_len f r]
mutual
theorem tuI_same (f : Int) : ∀ i : Ins, dpI (tuI f i) = dpI i ∧ cnI (tuI f i) = cnI i ∧ shI (tuI f i) = shI i ∧ sdI (tuI f i) = sdI i
  | .step c => by
    rw [tuI]
    exact ⟨rfl, rfl, rfl, rfl⟩
  | .turn c => by
    rw [tuI, dpI, dpI, cnI, cnI, shI, shI, sdI, sdI]
    exact ⟨rfl, rfl, rfl, rfl⟩
  | .rep n b => by
    obtain ⟨h1, h2, h3, h4⟩ := tuP_same f b
    rw [tuI, dpI, dpI, cnI, cnI, shI, shI, sdI, sdI, h1, h2, h3, h4]
    exact ⟨rfl, rfl, rfl, rfl⟩
theorem tuP_same (f : Int) : ∀ b : List Ins, dpP (tuP f b) = dpP b ∧ cnP (tuP f b) = cnP b ∧ shP (tuP f b) = shP b ∧ sdP (tuP f b) = sdP b
  | [] => by
    rw [tuP_nil]
    exact ⟨rfl, rfl, rfl, rfl⟩
  | i :: r => by
    obtain ⟨h1, h2, h3, h4⟩ := tuP_same f r
    obtain ⟨g1, g2, g3, g4⟩ := tuI_same f i
    rw [tuP_cons, dpP_cons, dpP_cons, cnP_cons, cnP_cons, shP_cons, shP_cons, sdP_cons, sdP_cons, h1, h2, h3, h4, g1, g2, g3, g4]
    exact ⟨rfl, rfl, rfl, rfl⟩
end
mutual
theorem tuI_np (f : Int) : ∀ i : Ins, NI i → NI (tuI f i)
  | .step c, h => by rw [tuI]; exact h
  | .turn c, _ => by rw [tuI, NI]; trivial
  | .rep n b, h => by
    rw [NI] at h
    rw [tuI, NI]
    exact ⟨h.1, tu_np f b h.2⟩
theorem tu_np (f : Int) : ∀ b : List Ins, NP b → NP (tuP f b)
  | [], h => by rw [tuP_nil]; exact h
  | i :: r, h => by
    rw [NP_cons] at h
    rw [tuP_cons, NP_cons]
    exact ⟨tuI_np f i h.1, tu_np f r h.2⟩
end
mutual
theorem tuI_w {f : Int} {M N : Nat} (hf : f.natAbs ≤ N) (hM : M * N ≤ 2 ^ 100) : ∀ i : Ins, CI M i → WI i → WI (tuI f i)
  | .step c, _, w => by rw [tuI]; exact w
  | .turn c, h, _ => by
    rw [CI] at h
    rw [tuI, WI, Int.natAbs_mul]
    exact Nat.le_trans (Nat.mul_le_mul h hf) hM
  | .rep n b, h, w => by
    rw [CI] at h
    rw [WI] at w
    rw [tuI, WI, tu_len]
    exact ⟨w.1, w.2.1, tu_w hf hM b h w.2.2⟩
theorem tu_w {f : Int} {M N : Nat} (hf : f.natAbs ≤ N) (hM : M * N ≤ 2 ^ 100) : ∀ b : List Ins, CP M b → WP b → WP (tuP f b)
  | [], _, w => by rw [tuP_nil]; exact w
  | i :: r, h, w => by
    rw [CP_cons] at h
    rw [WP] at w
    rw [tuP_cons, WP]
    exact ⟨tuI_w hf hM i h.1 w.1, tu_w hf hM r h.2 w.2⟩
end
mutual
theorem stI_wide {f : Int} {M N : Nat} (hf : f.natAbs ≤ N) (hM : M * N ≤ 2 ^ 100) : ∀ i : Ins, CI M i → WI i → WI (stI f i)
  | .turn c, _, w => by rw [stI]; exact w
  | .step c, h, _ => by
    rw [CI] at h
    rw [stI, WI, Int.natAbs_mul]
    exact Nat.le_trans (Nat.mul_le_mul h hf) hM
  | .rep n b, h, w => by
    rw [CI] at h
    rw [WI] at w
    rw [stI, WI, st_len]
    exact ⟨w.1, w.2.1, st_wide hf hM b h w.2.2⟩
theorem st_wide {f : Int} {M N : Nat} (hf : f.natAbs ≤ N) (hM : M * N ≤ 2 ^ 100) : ∀ b : List Ins, CP M b → WP b → WP (stP f b)
  | [], _, w => by rw [stP_nil]; exact w
  | i :: r, h, w => by
    rw [CP_cons] at h
    rw [WP] at w
    rw [stP_cons, WP]
    exact ⟨stI_wide hf hM i h.1 w.1, st_wide hf hM r h.2 w.2⟩
end
mutual
theorem stI_sd (f : Int) : ∀ i : Ins, (sdI (stI f i)).length = (sdI i).length
  | .step c => by rw [stI, sdI, sdI]
  | .turn c => by rw [stI]
  | .rep n b => by rw [stI, sdI, sdI, List.length_cons, List.length_cons, st_sd f b]
theorem st_sd (f : Int) : ∀ b : List Ins, (sdP (stP f b)).length = (sdP b).length
  | [] => by rw [stP_nil]
  | i :: r => by rw [stP_cons, sdP_cons, sdP_cons, List.length_append, List.length_append, stI_sd f i, st_sd f r]
end
theorem rsum_times (f : Int) (g : Int → Int) (s : Int) : ∀ (n : Nat) (x : Int), rsum (fun y => f * g y) s n x = f * rsum g s n x
  | 0, _ => (Int.mul_zero f).symm
  | n + 1, x => by
    show rsum (fun y => f * g y) s n x + f * g (x - n * s) = f * (rsum g s n x + g (x - n * s))
    rw [rsum_times f g s n x, Int.mul_add]
mutual
theorem seI_tu (f : Int) : ∀ (i : Ins) (x : Int), seI (tuI f i) x = f * seI i x
  | .step c, x => by rw [tuI, seI, Int.mul_zero]
  | .turn c, x => by
    rw [tuI, seI, seI]
    split
    · exact Int.mul_comm c f
    · exact (Int.mul_zero f).symm
  | .rep n b, x => by
    rw [tuI, seI, seI, (tuP_same f b).2.2.1, rsum_congr (seP_tu f b), rsum_times]
theorem seP_tu (f : Int) : ∀ (b : List Ins) (x : Int), seP (tuP f b) x = f * seP b x
  | [], x => by rw [tuP_nil, seP_nil, Int.mul_zero]
  | i :: r, x => by rw [tuP_cons, seP_cons, seP_cons, seI_tu f i x, (tuI_same f i).2.2.1, seP_tu f r, Int.mul_add]
end
/-! what this does to the ends -/
theorem Ends1.moved {p lo hi : Int} {b : List Ins} (E : Ends1 p (seP b) lo hi) (a : Int) : Ends1 p (seP ([.step a] ++ b)) (lo + a) (hi + a) := by
  have e : ∀ x, seP ([.step a] ++ b) x = seP b (x - a) := fun x => by
    rw [seP_app, seP_cons, seP_nil, shP_cons, shP_nil, seI, shI]
    rw [Int.add_zero, Int.add_zero, Int.zero_add]
  refine ⟨?_, ?_, fun x h => ?_, fun x h => ?_⟩
  · rw [e, show lo + a - a = lo by omega]
    exact E.atLo
  · rw [e, show hi + a - a = hi by omega]
    exact E.atHi
  · rw [e]
    exact E.below _ (by omega)
  · rw [e]
    exact E.above _ (by omega)
theorem Ends1.stretched {p lo hi f : Int} {b : List Ins} (E : Ends1 p (seP b) lo hi) (hf : 0 < f) : Ends1 p (seP (stP f b)) (lo * f) (hi * f) := by
  have nz : f ≠ 0 := by omega
  have at_ : ∀ y, seP (stP f b) (y * f) = seP b y := fun y => by rw [Int.mul_comm, seP_st nz]
  have off : ∀ x, (∀ y, x = y * f → p ∣ seP b y) → p ∣ seP (stP f b) x := fun x h => by
    by_cases d : f ∣ x
    · obtain ⟨y, rfl⟩ := d
      rw [seP_st nz]
      exact h y (Int.mul_comm f y)
    · rw [seP_off b x d]
      exact Int.dvd_zero p
  refine ⟨by rw [at_]; exact E.atLo, by rw [at_]; exact E.atHi, fun x h => off x fun y e => E.below y ?_, fun x h => off x fun y e => E.above y ?_⟩
  · rw [e] at h
    exact Int.lt_of_mul_lt_mul_right h (Int.le_of_lt hf)
  · rw [e] at h
    exact Int.lt_of_mul_lt_mul_right h (Int.le_of_lt hf)
theorem Ends1.turned_back {p lo hi : Int} {b : List Ins} (E : Ends1 p (seP b) lo hi) : Ends1 p (seP (stP (-1) b)) (0 - hi) (0 - lo) := by
  have e : ∀ x, seP (stP (-1) b) x = seP b (0 - x) := fun x => by
    have := seP_st (f := -1) (by decide) b (0 - x)
    rwa [show (-1 : Int) * (0 - x) = x by omega] at this
  refine ⟨?_, ?_, fun x h => ?_, fun x h => ?_⟩
  · rw [e, show 0 - (0 - hi) = hi by omega]
    exact E.atHi
  · rw [e, show 0 - (0 - lo) = lo by omega]
    exact E.atLo
  · rw [e]
    exact E.above _ (by omega)
  · rw [e]
    exact E.below _ (by omega)
theorem none_moved {p : Int} {b : List Ins} (h : ∀ x, p ∣ seP b x) (a : Int) : ∀ x, p ∣ seP ([.step a] ++ b) x := fun x => by
  rw [seP_app, seP_cons, seP_nil, seI, Int.add_zero, Int.zero_add]
  exact h _
theorem none_stretched {p f : Int} {b : List Ins} (h : ∀ x, p ∣ seP b x) (hf : f ≠ 0) : ∀ x, p ∣ seP (stP f b) x := fun x => by
  by_cases d : f ∣ x
  · obtain ⟨y, rfl⟩ := d
    rw [seP_st hf]
    exact h y
  · rw [seP_off b x d]
    exact Int.dvd_zero p
theorem Ends1.same {p lo hi : Int} {F G : Int → Int} (E : Ends1 p F lo hi) (e : ∀ x, p ∣ G x ↔ p ∣ F x) : Ends1 p G lo hi := ⟨fun h => E.atLo ((e lo).mp h), fun h => E.atHi ((e hi).mp h), fun x h => (e x).mpr (E.below x h), fun x h => (e x).mpr (E.above x h)⟩
/-- with its way back, a program leaves nothing -/
theorem se_both {b : List Ins} (n : NP b) (x : Int) : seP (b ++ bkP b) x = 0 := by
  rw [seP_app, seP_bk b x n]
  omega
theorem sh_both (b : List Ins) : shP (b ++ bkP b) = 0 := by
  rw [shP_app, shP_bk]
  omega
def sp__law_steppedL (K : PySem.W.Frag) (k : Nat) : Sp := fun vs H Q _ => ∃ (v : V) (f : Int) (b : List Ins), vs = [v, .int f] ∧ PV K H v b ∧ dpP b < k ∧ k ≤ 3 ∧ cnP b ≤ 1024 ∧ WP b ∧ f.natAbs ≤ 100 ∧ ∀ D H', Same H H' → PV K (er H H') (.ref D) (stP f b) → Q (.ref D) H'
def sp__law_turned (K : PySem.W.Frag) (k : Nat) : Sp := fun vs H Q _ => ∃ (v : V) (f : Int) (b : List Ins), vs = [v, .int f] ∧ PV K H v b ∧ dpP b < k ∧ k ≤ 3 ∧ cnP b ≤ 1024 ∧ WP b ∧ f.natAbs ≤ 100 ∧ ∀ D H', Same H H' → PV K (er H H') (.ref D) (tuP f b) → Q (.ref D) H'
def sp__law_full_programS (K : PySem.W.Frag) : Sp := fun vs H Q _ => ∃ (p c : Addr) (n : Nat), vs = [.ref p] ∧ PenAt H p c n ∧ n < 2 ^ 37 ∧
  ∀ F xs b H', Kp p H H' → PenAt H' p c (n + 500) → H' F = some (.lst xs) → IVs K H' xs b → PrS b 2 100 (10 ^ 31) 5 → Q (.ref F) H'
/-- the same, each int within a bound -/
theorem lcPenTB {N : Nat} {K : PySem.W.Frag} {a p c : Addr} {xs : List V} {f : Pol} {σ : L2.St} {H : Hp} {vs : List Nat} {i j : Nat} {te tv' : TE} {Q : VK} (hv : ∀ R : VK, R (.ref a) H → tv' σ H R) (hs : SqT K H a xs) (hP : Prs K H xs f) (hl : f.length ≤ 1000) (b cost : Nat) (pen : PenAt H p c b)
    (hw : ∀ x y, wipe (((wipe σ vs).set i (some x)).set j (some y)) vs = wipe σ vs)
    (he : ∀ t ∈ f, ∀ (m : Nat) H2, m < f.length → PenAt H2 p c (b + cost * m) → ∀ S : VK, (∀ z H3, z.natAbs ≤ N → Kp p H2 H3 → PenAt H3 p c (b + cost * (m + 1)) → S (.int z) H3) → te (((wipe σ vs).set i (some (.int t.1))).set j (some (.int t.2))) H2 S)
    (k : ∀ D H2 (zs : List Int), H2 D = some (.lst (zs.map V.int)) → zs.length = f.length → (∀ z ∈ zs, z.natAbs ≤ N) → Kp p H H2 → PenAt H2 p c (b + cost * f.length) → Q (.ref D) H2) : tLc (iTup K tv') (gTup K 2 (gCons (gName i) (gCons (gName j) gNil))) tYes te vs σ H Q := by
  refine hv _ ⟨a, rfl, ⟨_, hs⟩, fun D nD => ?_⟩
  have npD := pen.np nD
  have ncD := pen.nc nD
  refine lc_tup (K := K) (a := a) (xs := xs) (fun m H2 => ∃ zs : List Int, H2 D = some (.lst (zs.map V.int)) ∧ zs.length = m ∧ (∀ z ∈ zs, z.natAbs ≤ N) ∧ Kp p H H2 ∧ PenAt H2 p c (b + cost * m)) ⟨[], upd_same, rfl, fun z h => absurd h List.not_mem_nil, Same.kp (same_new nD), pen.same (same_new nD)⟩ (fun m H2 _ ⟨_, _, _, _, k2, _⟩ => tp_t (pen.tp k2) hs) ?_ ?_
  · rintro m x H2 hm ⟨zs, hD, hzl, hzb, k2, pen2⟩
    obtain ⟨t, ht, q, rfl, hq⟩ := hP.get hm
    refine ⟨q, _, rfl, tp_t (pen.tp k2) hq, rfl, _, _, rfl, _, _, rfl, rfl, hw _ _, ?_⟩
    dsimp only [tYes]
    rw [if_pos rfl]
    have hm2 : m < f.length := (List.getElem?_eq_some_iff.mp ht).1
    refine he t (List.mem_of_getElem? ht) m H2 hm2 pen2 _ fun z H3 hz k3 pen3 => ⟨zs.map V.int, k3 _ _ npD hD, sl_lt (by rw [List.length_map]; omega), zs ++ [z], ?_, by rw [List.length_append, hzl]; rfl, fun u hu => (List.mem_append.mp hu).elim (hzb u) fun g => by rw [List.mem_singleton.mp g]; exact hz, fun y o ny ey => ?_, pen3.upd npD ncD⟩
    · rw [upd_same, List.map_append]
      rfl
    · rw [upd_ne (ne_of_none ey nD)]
      exact k3 _ _ ny (k2 _ _ ny ey)
  · rintro H2 ⟨zs, hD, hzl, hzb, k2, pen2⟩
    rw [hP.len] at pen2 hzl
    exact k D H2 zs hD hzl hzb k2 pen2
theorem sum_near {N : Nat} : ∀ {zs : List Int}, (∀ z ∈ zs, z.natAbs ≤ N) → zs.sum.natAbs ≤ zs.length * N
  | [], _ => Nat.zero_le _
  | z :: r, h => by
    have h1 := h z List.mem_cons_self
    have h2 := sum_near (zs := r) fun y hy => h y (List.mem_cons_of_mem _ hy)
    rw [List.sum_cons, List.length_cons, Nat.add_mul, Nat.one_mul]
    omega
structure LOkB (k : Nat) (t : Tm) : Prop where
  co : t.co.natAbs ≤ 2 ^ 100
  len : t.rs.length + 1 ≤ k
  rs : ∀ r ∈ t.rs, 1 ≤ r.1 ∧ r.1 ≤ 2 ^ 100 ∧ r.2.natAbs ≤ 2 ^ 220
  at_ : t.pl.natAbs ≤ k * 2 ^ 331
def sp__law_termsB (K : PySem.W.Frag) (k : Nat) : Sp := fun vs H Q _ => ∃ (v : V) (b : List Ins), vs = [v] ∧ PV K H v b ∧ dpP b < k ∧ k ≤ 3 ∧ WP b ∧ NP b ∧ cnP b ≤ 1024 ∧
  ∀ D ys ts H', Same H H' → H D = none → H' D = some (.lst ys) → LTVs K H' ys ts → (∀ x, tvs ts x = seP b x) → (∀ t ∈ ts, LOkB (dpP b + 1) t) → ts.length ≤ cnP b → Q (.ref D) H'
def sp__law_touchedB (K : PySem.W.Frag) : Sp := fun vs H Q _ => ∃ (p c : Addr) (v : V) (b : List Ins) (m : Nat), vs = [.ref p, v] ∧ PV K H v b ∧ dpP b < 3 ∧ WP b ∧ NP b ∧ cnP b ≤ 1024 ∧ PenAt H p c m ∧ m < 2 ^ 38 ∧ ∀ z H', z.natAbs ≤ 2 ^ 339 → Kp p H H' → PenAt H' p c (m + 10) → Q (.int z) H'
theorem touch_near {k n : Nat} {pl e : Int} {zs : List Int} (h1 : pl.natAbs ≤ (k + 1) * 2 ^ 331) (h2 : n + 1 ≤ k + 1) (h3 : zs.length = n) (h4 : ∀ z ∈ zs, z.natAbs ≤ 2 ^ 320) (h5 : e.natAbs ≤ 1) (hk : k < 3) : (pl + zs.sum + e).natAbs ≤ 2 ^ 339 := by
  have s := sum_near h4
  have a : (k + 1) * 2 ^ 331 ≤ 3 * 2 ^ 331 := Nat.mul_le_mul_right _ (by omega)
  have b : zs.length * 2 ^ 320 ≤ 2 * 2 ^ 320 := Nat.mul_le_mul_right _ (by omega)
  have c : 3 * 2 ^ 331 + 2 * 2 ^ 320 + 1 ≤ 2 ^ 339 := by decide +kernel
  have d := Int.natAbs_add_le (pl + zs.sum) e
  have f := Int.natAbs_add_le pl zs.sum
  omega
def sp__law_flat_programCS (K : PySem.W.Frag) : Sp := fun vs H Q _ => ∃ (p c : Addr) (most reach rounds : Int) (n : Nat), vs = [.ref p, .int most, .int reach, .int rounds] ∧ 0 ≤ most ∧ most ≤ 20 ∧ 0 ≤ reach ∧ reach ≤ 10 ^ 30 ∧ 0 ≤ rounds ∧ rounds ≤ 10 ^ 30 ∧ PenAt H p c n ∧ n < 2 ^ 38 ∧
  ∀ F xs b H', Kp p H H' → PenAt H' p c (n + 200) → H' F = some (.lst xs) → IVs K H' xs b → PrS b 1 (3 * most.toNat + 1) rounds 1 → CP (reach.natAbs + 3) b → Q (.ref F) H'
def sp__law_short_programCS (K : PySem.W.Frag) : Sp := fun vs H Q _ => ∃ (p c : Addr) (most reach rounds : Int) (n : Nat), vs = [.ref p, .int most, .int reach, .int rounds] ∧ 0 ≤ most ∧ most ≤ 20 ∧ 0 ≤ reach ∧ reach ≤ 10 ^ 30 ∧ 0 ≤ rounds ∧ rounds ≤ 10 ^ 30 ∧ PenAt H p c n ∧ n < 2 ^ 37 ∧
  ∀ F xs b H', Kp p H H' → PenAt H' p c (n + 400) → H' F = some (.lst xs) → IVs K H' xs b → PrS b 2 (5 * most.toNat + 2) rounds 2 → CP (reach.natAbs + 3) b → Q (.ref F) H'
end DR
namespace DR
open PySem PySem.Spec PyProof.Rows L2
theorem trmB_imp {K : PySem.W.Frag} {k : Nat} : ∀ vs H Q E, sp__law_termsP K k vs H Q E → sp__law_termsB K k vs H Q E := by
  rintro vs H Q E ⟨v, b, h1, h2, h3, h4, h5, h6, h7, go⟩
  exact ⟨v, b, h1, h2, h3, h4, h5, h6, h7, fun D ys ts H' a1 a2 a3 a4 a5 a6 a7 => go D ys ts H' a1 a2 a3 a4 a5 (fun t ht => ⟨(a6 t ht).co, (a6 t ht).len, fun r hr => ⟨((a6 t ht).rs r hr).1, ((a6 t ht).rs r hr).2.1, Nat.le_trans ((a6 t ht).rs r hr).2.2 (by decide +kernel)⟩, (a6 t ht).at_⟩) a7⟩
/-- what an extent tells of a program -/
def Tells (K : PySem.W.Frag) (H : Hp) (p : Int) (b : List Ins) (v : V) : Prop := (v = .non ∧ ∀ x, p ∣ seP b x) ∨ ∃ T lo hi, v = .ref T ∧ SqT K H T [.int lo, .int hi] ∧ Ends1 p (seP b) lo hi ∧ lo.natAbs ≤ 2 ^ 338 ∧ hi.natAbs ≤ 2 ^ 338
theorem Tells.kp {K : PySem.W.Frag} {H H' : Hp} {q : Int} {b : List Ins} {v : V} {p c : Addr} {n : Nat} (t : Tells K H q b v) (pen : PenAt H p c n) (k : Kp p H H') : Tells K H' q b v := t.elim .inl fun ⟨T, lo, hi, e, hT, r⟩ => .inr ⟨T, lo, hi, e, tp_t (pen.tp k) hT, r⟩
theorem Tells.same {K : PySem.W.Frag} {H H' : Hp} {q : Int} {b : List Ins} {v : V} (t : Tells K H q b v) (s : Same H H') : Tells K H' q b v := t.elim .inl fun ⟨T, lo, hi, e, hT, r⟩ => .inr ⟨T, lo, hi, e, same_t s hT, r⟩
def sp__law_ends_right (K : PySem.W.Frag) : Sp := fun vs H Q _ => ∃ (p c : Addr) (q : Int) (v told : V) (b : List Ins) (m : Nat), vs = [.ref p, .int q, v, told] ∧ 0 < q ∧ PV K H v b ∧ dpP b < 3 ∧ WP b ∧ NP b ∧ cnP b ≤ 1024 ∧ Tells K H q b told ∧ PenAt H p c m ∧ m < 2 ^ 37 ∧
  ∀ H', Kp p H H' → PenAt H' p c (m + 60) → Q (.bl true) H'
theorem no_left {α : Type} {f : α → Bool} {xs : List α} (h : ∀ x ∈ xs, f x = false) : xs.filter f = [] := List.filter_eq_nil_iff.mpr fun x hx z => by
  rw [h x hx] at z
  cases z
theorem intsB : ∀ {xs : List V} {R : Int → Prop}, (∀ v ∈ xs, ∃ r, v = V.int r ∧ R r) → ∃ ns : List Int, xs = ns.map V.int ∧ ∀ r ∈ ns, R r
  | [], _, _ => ⟨[], rfl, fun r h => absurd h List.not_mem_nil⟩
  | x :: xs, R, h => by
    obtain ⟨r, rfl, hr⟩ := h x List.mem_cons_self
    obtain ⟨ns, rfl, hn⟩ := intsB (xs := xs) fun v hv => h v (List.mem_cons_of_mem _ hv)
    exact ⟨r :: ns, rfl, fun z hz => (List.mem_cons.mp hz).elim (fun e => e ▸ hr) (hn z)⟩
/-- the same where the test may lay new things into the heap -/
theorem lcFilS {K : PySem.W.Frag} {tv' : TE} {σ : L2.St} {H : Hp} {vs : List Nat} {i : Nat} {tt : TT} {te : TE} {Q : VK} {a : Addr} {ns : List Int} (p : Int → Bool) (hv : ∀ R : VK, R (.ref a) H → tv' σ H R) (h1 : SqL K H a (ns.map V.int)) (hn : ns.length ≤ 100000)
    (hw : ∀ x, wipe ((wipe σ vs).set i (some x)) vs = wipe σ vs)
    (ht : ∀ x ∈ ns, ∀ H2, Same H H2 → ∀ S : Bool → Hp → Prop, (∀ H3, Same H2 H3 → S (p x) H3) → tt ((wipe σ vs).set i (some (.int x))) H2 S)
    (he : ∀ x H2 (S : VK), S (.int x) H2 → te ((wipe σ vs).set i (some (.int x))) H2 S)
    (k : ∀ D H2, H D = none → Same H H2 → H2 D = some (.lst ((ns.filter p).map V.int)) → Q (.ref D) H2) : tLc (iList K tv') (gName i) tt te vs σ H Q := by
  refine hv _ ?_
  refine ⟨a, rfl, ⟨_, h1⟩, fun D nD => ?_⟩
  refine lc_it (walk_list (K := K) (a := a) (xs := ns.map V.int)) (fun m H2 => H2 D = some (.lst (((ns.take m).filter p).map V.int)) ∧ Same H H2) ⟨upd_same, same_new nD⟩ ?_ ?_ ?_
  · rintro m H2 _ ⟨_, s2⟩
    exact same_l s2 h1
  · rintro m v H2 H3 hm ⟨hD, s2⟩ ⟨rfl, gv⟩
    rw [List.length_map] at hm
    have ev : v = .int ns[m] := by
      rw [List.getElem?_map, List.getElem?_eq_getElem hm] at gv
      exact (Option.some.inj gv).symm
    subst ev
    refine ⟨hw _, ?_⟩
    refine ht _ (List.getElem_mem hm) _ s2 _ fun H4 s4 => ?_
    have et : (ns.take (m + 1)).filter p = (ns.take m).filter p ++ [ns[m]].filter p := by rw [List.take_succ_eq_append_getElem hm, List.filter_append]
    cases hp : p ns[m] with
    | true =>
      rw [if_pos rfl]
      refine he _ _ _ ?_
      have hlen := List.length_filter_le p (ns.take m)
      rw [List.length_take] at hlen
      refine ⟨_, s4 _ _ hD, sl_lt (by rw [List.length_map]; omega), ?_, fun x o ex => ?_⟩
      · rw [upd_same, et, List.filter_cons_of_pos hp, List.map_append]
        rfl
      · rw [upd_ne (ne_of_none ex nD)]
        exact s4 _ _ (s2 _ _ ex)
    | false =>
      rw [if_neg (by decide)]
      refine ⟨?_, s2.trans s4⟩
      rw [s4 _ _ hD, et, List.filter_cons_of_neg (by rw [hp]; decide)]
      show _ = some (HO.lst (((ns.take m).filter p ++ []).map V.int))
      rw [List.append_nil]
  · rintro H2 ⟨hD, s2⟩
    rw [List.length_map, List.take_length] at hD
    exact k D H2 nD s2 hD
theorem ne_dec (a b : Int) : (!decide (V.int a = V.int b)) = decide (a ≠ b) := by
  by_cases h : a = b
  · subst h
    rw [decide_eq_true rfl, decide_eq_false fun z => z rfl]
    rfl
  · rw [decide_eq_true h, decide_eq_false fun z => h (by injection z)]
    rfl
theorem Ends1.le {p lo hi : Int} {F : Int → Int} (E : Ends1 p F lo hi) : lo ≤ hi := Classical.byContradiction fun z => E.atHi (E.below hi (by omega))
end DR
namespace DR
open PySem PySem.Spec PyProof.Rows L2
/-- [an int for x in a list of ints], the list of any expression -/
theorem lcMapI {K : PySem.W.Frag} {tv' : TE} {σ : L2.St} {H : Hp} {vs : List Nat} {i : Nat} {te : TE} {Q : VK} {ns : List Int} (F : Int → Int) (hv : ∀ R : VK, (∀ a H1, Same H H1 → H1 a = some (.lst (ns.map V.int)) → R (.ref a) H1) → tv' σ H R) (hn : ns.length ≤ 100000)
    (hw : ∀ x, wipe ((wipe σ vs).set i (some x)) vs = wipe σ vs)
    (he : ∀ x ∈ ns, ∀ H2, ∀ S : VK, S (.int (F x)) H2 → te ((wipe σ vs).set i (some (.int x))) H2 S)
    (k : ∀ D H2, Same H H2 → H2 D = some (.lst ((ns.map F).map V.int)) → Q (.ref D) H2) : tLc (iList K tv') (gName i) tYes te vs σ H Q := by
  refine hv _ fun a H1 s1 h1 => ?_
  refine ⟨a, rfl, ⟨_, SqL.of h1⟩, fun D nD => ?_⟩
  refine lc_it (walk_list (K := K) (a := a) (xs := ns.map V.int)) (fun m H2 => H2 D = some (.lst (((ns.take m).map F).map V.int)) ∧ Same H1 H2) ⟨upd_same, same_new nD⟩ ?_ ?_ ?_
  · rintro m H2 _ ⟨_, s2⟩
    exact same_l s2 (SqL.of h1)
  · rintro m v H2 H3 hm ⟨hD, s2⟩ ⟨rfl, gv⟩
    rw [List.length_map] at hm
    have ev : v = .int ns[m] := by
      rw [List.getElem?_map, List.getElem?_eq_getElem hm] at gv
      exact (Option.some.inj gv).symm
    subst ev
    refine ⟨hw _, ?_⟩
    dsimp only [tYes]
    rw [if_pos rfl]
    refine he _ (List.getElem_mem hm) _ _ ?_
    refine ⟨_, hD, sl_lt (by rw [List.length_map, List.length_map, List.length_take]; omega), ?_, same_mut s2 nD⟩
    rw [upd_same, List.take_succ_eq_append_getElem hm, List.map_append, List.map_append]
    rfl
  · rintro H2 ⟨hD, s2⟩
    rw [List.length_map, List.take_length] at hD
    exact k D H2 (s1.trans s2) hD
/-- the ends an extent tells, as a list -/
def EndsAs (p : Int) (b : List Ins) (es : List Int) : Prop := (es = [] ∧ ∀ x, p ∣ seP b x) ∨ ∃ lo hi, es = [lo, hi] ∧ Ends1 p (seP b) lo hi
def endsD : List Int → PyData
  | [] => .none
  | es => .tuple (es.map .int)
theorem EndsAs.len {p : Int} {b : List Ins} {es : List Int} (h : EndsAs p b es) : es = [] ∨ ∃ lo hi, es = [lo, hi] := by
  rcases h with ⟨e, _⟩ | ⟨lo, hi, e, _⟩
  · exact .inl e
  · exact .inr ⟨lo, hi, e⟩
theorem endsD_eq {es : List Int} (h : es = [] ∨ ∃ lo hi, es = [lo, hi]) : PyData.eqv (endsD es) (endsD es) = true ∧ SeqAt.shaped (endsD es) = true := by
  rcases h with rfl | ⟨lo, hi, rfl⟩
  · exact ⟨rfl, rfl⟩
  · exact ⟨(eqv_pr (lo, hi) (lo, hi)).trans (decide_eq_true rfl), rfl⟩
/-- what is told of a program is what its ends are -/
theorem Tells.dp {K : PySem.W.Frag} {H : Hp} {p : Int} {b : List Ins} {v : V} {es : List Int} (t : Tells K H p b v) (e : EndsAs p b es) : Dp K H v (endsD es) := by
  rcases t with ⟨rfl, all⟩ | ⟨T, lo, hi, rfl, hT, E1, _, _⟩
  · rcases e with ⟨rfl, _⟩ | ⟨lo, hi, rfl, E2⟩
    · exact .non
    · exact absurd (all lo) E2.atLo
  · rcases e with ⟨rfl, all⟩ | ⟨lo2, hi2, rfl, E2⟩
    · exact absurd (all lo) E1.atLo
    · obtain ⟨rfl, rfl⟩ := E1.uniq E2
      exact .tup hT (.cons (.int _) (.cons (.int _) .nil))
theorem EndsAs.none {p : Int} {b : List Ins} {v : V} {K : PySem.W.Frag} {H : Hp} (t : Tells K H p b v) (all : ∀ x, p ∣ seP b x) : v = .non := by
  rcases t with ⟨rfl, _⟩ | ⟨T, lo, hi, rfl, hT, E1, _, _⟩
  · rfl
  · exact absurd (all lo) E1.atLo
theorem EndsAs.moved {p : Int} {b : List Ins} {es : List Int} (h : EndsAs p b es) (a : Int) : EndsAs p ([.step a] ++ b) (es.map fun x => x + a) := by
  rcases h with ⟨rfl, all⟩ | ⟨lo, hi, rfl, E⟩
  · exact .inl ⟨rfl, none_moved all a⟩
  · exact .inr ⟨_, _, rfl, E.moved a⟩
theorem EndsAs.back {p : Int} {b : List Ins} {es : List Int} (h : EndsAs p b es) : EndsAs p (stP (-1) b) (es.reverse.map fun x => 0 - x) := by
  rcases h with ⟨rfl, all⟩ | ⟨lo, hi, rfl, E⟩
  · exact .inl ⟨rfl, none_stretched all (by decide)⟩
  · exact .inr ⟨_, _, rfl, E.turned_back⟩
theorem EndsAs.stretched {p : Int} {b : List Ins} {es : List Int} (h : EndsAs p b es) {f : Int} (hf : 0 < f) : EndsAs p (stP f b) (es.map fun x => x * f) := by
  rcases h with ⟨rfl, all⟩ | ⟨lo, hi, rfl, E⟩
  · exact .inl ⟨rfl, none_stretched all (by omega)⟩
  · exact .inr ⟨_, _, rfl, E.stretched hf⟩
theorem EndsAs.same {p : Int} {b c : List Ins} {es : List Int} (h : EndsAs p b es) (e : ∀ x, p ∣ seP c x ↔ p ∣ seP b x) : EndsAs p c es := by
  rcases h with ⟨rfl, all⟩ | ⟨lo, hi, rfl, E⟩
  · exact .inl ⟨rfl, fun x => (e x).mpr (all x)⟩
  · exact .inr ⟨_, _, rfl, E.same e⟩
/-- the same promise of an extent, told as a whole -/
def sp_extentT (K : PySem.W.Frag) : Sp := fun vs H Q _ => ∃ (p : Int) (v : V) (b : List Ins), vs = [.int p, v] ∧ 0 < p ∧ PV K H v b ∧ dpP b < 3 ∧ WP b ∧ NP b ∧ cnP b ≤ 400 ∧ (sdP b).length ≤ 10 ∧ ∀ u H', Same H H' → Tells K H' p b u → Q u H'
theorem extT_imp {K : PySem.W.Frag} : ∀ vs H Q E, sp_extentT K vs H Q E → sp_extent K vs H Q E := by
  rintro vs H Q E ⟨p, v, b, h1, h2, h3, h4, h5, h6, h7, h8, go⟩
  refine ⟨p, v, b, h1, h2, h3, h4, h5, h6, h7, h8, fun H' s all => go _ H' s (.inl ⟨rfl, all⟩), fun T H' lo hi s E1 hT => go _ H' s (.inr ⟨T, lo, hi, rfl, hT, E1, ?_, ?_⟩)⟩
  · exact Nat.le_trans (Nat.le_of_lt (ends_near h4 h5 h6 (by omega) E1).1) (by decide +kernel)
  · exact Nat.le_trans (Nat.le_of_lt (ends_near h4 h5 h6 (by omega) E1).2) (by decide +kernel)
/-- what an extent asks of a program -/
def PrE (b : List Ins) : Prop := dpP b < 3 ∧ WP b ∧ NP b ∧ cnP b ≤ 400 ∧ (sdP b).length ≤ 10
theorem PrS.ext {b : List Ins} {k N m : Nat} {R : Int} (h : PrS b k N R m) (hk : k ≤ 2) (hN : N ≤ 400) (hm : m ≤ 10) : PrE b := ⟨by have := h.r.ok.dp; omega, h.r.ok.w, h.r.nn, by have := h.r.ok.cn; omega, Nat.le_trans h.st hm⟩
theorem ext_step {b : List Ins} {k N m : Nat} {R a : Int} (h : PrS b k N R m) (ha : a.natAbs ≤ 2 ^ 100) (hk : k ≤ 2) (hN : N ≤ 300) (hm : m ≤ 10) : PrE ([.step a] ++ b) := by
  have one : PrS [.step a] 0 1 R 0 := Flat.okS (R := a.natAbs) ⟨Nat.le_refl _, fun i hi => by
    cases List.mem_singleton.mp hi
    trivial, fun i hi => by
    cases List.mem_singleton.mp hi
    exact Nat.le_refl _⟩ ha R
  exact (one.app h).ext (by omega) (by omega) (by omega)
theorem ext_st {b : List Ins} {k N m M n : Nat} {R f : Int} (h : PrS b k N R m) (c : CP M b) (hf : f.natAbs ≤ n) (hM : M * n ≤ 2 ^ 100) (hk : k ≤ 2) (hN : N ≤ 300) (hm : m ≤ 10) : PrE (stP f b) := ⟨by have := h.r.ok.dp; rw [st_dp]; omega, st_wide hf hM b c h.r.ok.w, st_np f b h.r.nn, by have := h.r.ok.cn; rw [st_cn]; omega, by rw [st_sd]; exact Nat.le_trans h.st hm⟩
theorem ext_tu {b : List Ins} {k N m M n : Nat} {R f : Int} (h : PrS b k N R m) (c : CP M b) (hf : f.natAbs ≤ n) (hM : M * n ≤ 2 ^ 100) (hk : k ≤ 2) (hN : N ≤ 300) (hm : m ≤ 10) : PrE (tuP f b) := ⟨by have := h.r.ok.dp; rw [(tuP_same f b).1]; omega, tu_w hf hM b c h.r.ok.w, tu_np f b h.r.nn, by have := h.r.ok.cn; rw [(tuP_same f b).2.1]; omega, by rw [(tuP_same f b).2.2.2]; exact Nat.le_trans h.st hm⟩
theorem ends_shaped {es : List Int} (h : es = [] ∨ ∃ lo hi, es = [lo, hi]) : SeqAt.shaped (.list (es.map .int)) = true := by
  rcases h with rfl | ⟨lo, hi, rfl⟩ <;> rfl
theorem units_there : ∀ q ∈ primes, ∀ a ∈ List.range q.toNat, 0 < a → ∃ u ∈ List.range q.toNat, ((u : Int) * (a : Int)) % q = 1 := by decide +kernel
/-- a prime that divides a product and not its first factor divides the second -/
theorem prime_apart {q : Int} (hq : q ∈ primes) {a x : Int} (h : ¬ a % q = 0) (d : q ∣ a * x) : q ∣ x := by
  obtain ⟨hq1, hq2⟩ := prime_rng q hq
  have r0 := Int.emod_nonneg a (show q ≠ 0 by omega)
  have r9 := Int.emod_lt_of_pos a (show 0 < q by omega)
  obtain ⟨u, _, hu⟩ := units_there q hq (a % q).toNat (List.mem_range.mpr (by omega)) (by omega)
  rw [Int.toNat_of_nonneg r0, Int.mul_emod, Int.emod_emod, ← Int.mul_emod] at hu
  have e : q ∣ u * a - 1 := Int.dvd_of_emod_eq_zero (by
    rw [Int.sub_emod, hu, Int.emod_eq_of_lt (show (0 : Int) ≤ 1 by decide) (show (1 : Int) < q by omega)]
    rfl)
  have g := Int.dvd_sub (Int.dvd_trans d (Int.dvd_mul_left u (a * x))) (Int.dvd_trans e (Int.dvd_mul_right _ x))
  rw [Int.sub_mul, Int.one_mul, Int.mul_assoc] at g
  rwa [show u * (a * x) - (u * (a * x) - x) = x by omega] at g
end DR
namespace DR
open PySem PySem.Spec PyProof.Rows L2
/-! ### how many turns a term stands for -/
def pn : Pol → Int
  | [] => 1
  | r :: rs => r.1 * pn rs
theorem pn_app : ∀ a b : Pol, pn (a ++ b) = pn a * pn b
  | [], b => (Int.one_mul _).symm
  | r :: a, b => by
    show r.1 * pn (a ++ b) = r.1 * pn a * pn b
    rw [pn_app a b, Int.mul_assoc]
theorem pn_pos : ∀ {rs : Pol}, (∀ r ∈ rs, 1 ≤ r.1) → 1 ≤ pn rs
  | [], _ => Int.le_refl _
  | r :: rs, h => by
    have h1 := h r List.mem_cons_self
    have h2 := pn_pos (rs := rs) fun q hq => h q (List.mem_cons_of_mem _ hq)
    have h3 := Int.mul_le_mul h1 h2 (by decide) (by omega)
    show 1 ≤ r.1 * pn rs
    omega
theorem pn_take {rs : Pol} (h : ∀ r ∈ rs, 1 ≤ r.1) (j : Nat) : pn (rs.take j) ≤ pn rs := by
  have e : pn rs = pn (rs.take j) * pn (rs.drop j) := by rw [← pn_app, List.take_append_drop]
  have h1 := pn_pos (rs := rs.take j) fun r hr => h r (List.mem_of_mem_take hr)
  have h2 := pn_pos (rs := rs.drop j) fun r hr => h r (List.mem_of_mem_drop hr)
  have h3 := Int.mul_le_mul_of_nonneg_left h2 (by omega : (0 : Int) ≤ pn (rs.take j))
  rw [Int.mul_one] at h3
  rw [e]
  exact h3
def tmN : List Tm → Int
  | [] => 0
  | t :: r => pn t.rs + tmN r
theorem tmN_app : ∀ a b : List Tm, tmN (a ++ b) = tmN a + tmN b
  | [], b => (Int.zero_add _).symm
  | t :: a, b => by
    show pn t.rs + tmN (a ++ b) = pn t.rs + tmN a + tmN b
    rw [tmN_app a b, Int.add_assoc]
theorem tmN_grown (here c s : Int) : ∀ us : List Tm, tmN (us.map fun t => (⟨here + t.pl, t.co, t.rs ++ [(c, s)]⟩ : Tm)) = c * tmN us
  | [] => (Int.mul_zero c).symm
  | t :: r => by
    show pn (t.rs ++ [(c, s)]) + tmN (r.map fun t => (⟨here + t.pl, t.co, t.rs ++ [(c, s)]⟩ : Tm)) = c * (pn t.rs + tmN r)
    rw [tmN_grown here c s r, pn_app, Int.mul_add]
    congr 1
    show pn t.rs * (c * 1) = _
    rw [Int.mul_one, Int.mul_comm]
theorem tmN_take {ts : List Tm} (h : ∀ t ∈ ts, ∀ r ∈ t.rs, 1 ≤ r.1) (j : Nat) : tmN (ts.take j) ≤ tmN ts := by
  have nn : ∀ us : List Tm, (∀ t ∈ us, ∀ r ∈ t.rs, 1 ≤ r.1) → 0 ≤ tmN us := by
    intro us
    induction us with
    | nil => exact fun _ => Int.le_refl _
    | cons t us ih =>
      intro h
      have h1 := pn_pos (h t List.mem_cons_self)
      have h2 := ih fun u hu => h u (List.mem_cons_of_mem _ hu)
      show 0 ≤ pn t.rs + tmN us
      omega
  have e : tmN ts = tmN (ts.take j) + tmN (ts.drop j) := by rw [← tmN_app, List.take_append_drop]
  have := nn (ts.drop j) fun t ht => h t (List.mem_of_mem_drop ht)
  omega
theorem tmN_snoc {ts : List Tm} {j : Nat} {t : Tm} (h : ts[j]? = some t) : tmN (ts.take (j + 1)) = tmN (ts.take j) + pn t.rs := by
  rw [take_snoc h, tmN_app]
  show tmN (ts.take j) + (pn t.rs + 0) = _
  rw [Int.add_zero]
theorem tvs_snoc {ts : List Tm} {j : Nat} {t : Tm} (h : ts[j]? = some t) (x : Int) : tvs (ts.take (j + 1)) x = tvs (ts.take j) x + tv t x := by
  rw [take_snoc h, tvs_app]
  show tvs (ts.take j) x + (tv t x + 0) = _
  rw [Int.add_zero]
/-! ### how often a list of ints tells one of them -/
def hits (zs : List Int) (y : Int) : Int := cf (zs.map fun z => (z, 1)) y
theorem hits_app (a b : List Int) (y : Int) : hits (a ++ b) y = hits a y + hits b y := by
  unfold hits
  rw [List.map_append, cf_append]
theorem hits_shift (d : Int) : ∀ (zs : List Int) (y : Int), hits (zs.map fun z => z + d) y = hits zs (y - d)
  | [], _ => rfl
  | z :: r, y => by
    show (if z + d = y then (1 : Int) else 0) + hits (r.map fun z => z + d) y = (if z = y - d then 1 else 0) + hits r (y - d)
    rw [hits_shift d r y]
    congr 1
    by_cases h : z + d = y
    · rw [if_pos h, if_pos (by omega)]
    · rw [if_neg h, if_neg (by omega)]
theorem cf_hits (c : Int) : ∀ (zs : List Int) (y : Int), cf (zs.map fun z => (z, c)) y = c * hits zs y
  | [], _ => (Int.mul_zero c).symm
  | z :: r, y => by
    show (if z = y then c else 0) + cf (r.map fun z => (z, c)) y = c * ((if z = y then (1 : Int) else 0) + hits r y)
    rw [cf_hits c r y, Int.mul_add]
    congr 1
    by_cases h : z = y
    · rw [if_pos h, if_pos h, Int.mul_one]
    · rw [if_neg h, if_neg h, Int.mul_zero]
theorem wy_snoc (rs : Pol) (r : Int × Int) (d : Int) : wy (rs ++ [r]) d = rsum (fun y => wy rs y) r.2 r.1.toNat d := by
  rw [wy_perm List.perm_append_comm]
  rfl
theorem rsum_hits (zs : List Int) (rs : Pol) (off s : Int) (h : ∀ y, hits zs y = wy rs (y - off)) (n : Nat) (y : Int) : rsum (fun d => wy rs d) s (n + 1) (y - off) = rsum (fun d => wy rs d) s n (y - off) + hits (zs.map fun z => z + (n : Int) * s) y := by
  rw [hits_shift, h]
  show rsum _ s n (y - off) + wy rs (y - off - n * s) = _
  congr 2
  omega
/-! ### promises -/
def sp__law_termsN (K : PySem.W.Frag) (k : Nat) : Sp := fun vs H Q _ => ∃ (v : V) (b : List Ins), vs = [v] ∧ PV K H v b ∧ dpP b < k ∧ k ≤ 3 ∧ WP b ∧ NP b ∧ cnP b ≤ 1024 ∧
  ∀ D ys ts H', Same H H' → H D = none → H' D = some (.lst ys) → LTVs K H' ys ts → (∀ x, tvs ts x = seP b x) → (∀ t ∈ ts, LOk k t) → ts.length ≤ cnP b → tmN ts ≤ exP b → Q (.ref D) H'
def sp__law_spread (K : PySem.W.Frag) : Sp := fun vs H Q _ => ∃ (off : Int) (x : V) (rs : Pol), vs = [.int off, x] ∧ TPol K H x rs ∧ (∀ r ∈ rs, 1 ≤ r.1) ∧ pn rs ≤ 10000 ∧
  ∀ D zs H', Same H H' → H D = none → H' D = some (.lst (zs.map V.int)) → (zs.length : Int) = pn rs → (∀ y, hits zs y = wy rs (y - off)) → Q (.ref D) H'
/-- effect_of: where too much is executed it raises, with the limit -/
def sp_effect_ofX (K : PySem.W.Frag) (C : Addr) : Sp := fun vs H Q E => ∃ (p : Int) (v : V) (b : List Ins), vs = [.int p, v] ∧ 0 < p ∧ PV K H v b ∧ dpP b < 3 ∧ WP b ∧ b.length ≤ 1024 ∧ NP b ∧
  (exP b ≤ 10000 → ∀ u H' g, Same H H' → TEff K H' u g (shP b) → Nf p g (seP b) → g.length ≤ 10000 → Q u H') ∧
  (10000 < exP b → ∀ d, H d = none → E (.ref C) (some d) (upd H d (.xd [("limit", .int 10000)])))
def sp__law_outcome (K : PySem.W.Frag) : Sp := fun vs H Q _ => ∃ (p : Int) (v : V) (b : List Ins), vs = [.int p, v] ∧ 0 < p ∧ PV K H v b ∧ dpP b < 3 ∧ WP b ∧ b.length ≤ 1024 ∧ NP b ∧
  (exP b ≤ 10000 → ∀ D u H' g, Same H H' → H' D = some (.lst [u]) → TEff K H' u g (shP b) → Nf p g (seP b) → g.length ≤ 10000 → Q (.ref D) H') ∧
  (10000 < exP b → ∀ H', Same H H' → Q (.int 10000) H')
def sp__law_near_limit (K : PySem.W.Frag) : Sp := fun vs H Q _ => ∃ (p c : Addr) (n : Nat), vs = [.ref p] ∧ PenAt H p c n ∧ n < 2 ^ 37 ∧
  ∀ F xs b H', Kp p H H' → PenAt H' p c (n + 100) → H' F = some (.lst xs) → IVs K H' xs b → PrR b 2 1000 (10 ^ 31) → Q (.ref F) H'
theorem cutLim (xs : List V) {n : Nat} (h : n ≤ xs.length) : cutV xs none (some (n : Int)) = xs.take n := by
  have e : HT.sIx xs.length xs.length (some (n : Int)) = n := (HT.sIx_nat _ _ _).trans (by omega)
  show (xs.drop 0).take (HT.sIx xs.length xs.length (some (n : Int)) - 0) = xs.take n
  rw [e, Nat.sub_zero, List.drop_zero]
theorem IVs.repl {K : PySem.W.Frag} {H : Hp} {xs : List V} {b : List Ins} (h : IVs K H xs b) : ∀ n : Nat, IVs K H (List.replicate n xs).flatten (List.replicate n b).flatten
  | 0 => .nil
  | n + 1 => by
    rw [List.replicate_succ, List.replicate_succ, List.flatten_cons, List.flatten_cons]
    exact IVs.app h (IVs.repl h n)
theorem replLen {α : Type} (xs : List α) : ∀ n : Nat, (List.replicate n xs).flatten.length = n * xs.length
  | 0 => by simp
  | n + 1 => by
    rw [List.replicate_succ, List.flatten_cons, List.length_append, replLen xs n, Nat.succ_mul, Nat.add_comm]
theorem Flat.repl {b : List Ins} {N R : Nat} (h : Flat b N R) (n : Nat) : Flat (List.replicate n b).flatten (n * N) R := by
  have inside : ∀ i ∈ (List.replicate n b).flatten, i ∈ b := fun i hi => by
    obtain ⟨l, hl, hi⟩ := List.mem_flatten.mp hi
    rw [List.eq_of_mem_replicate hl] at hi
    exact hi
  refine ⟨?_, fun i hi => h.flat i (inside i hi), fun i hi => h.cnt i (inside i hi)⟩
  rw [replLen]
  exact Nat.mul_le_mul_left _ h.len
theorem Flat.take {b : List Ins} {N R : Nat} (h : Flat b N R) (n : Nat) : Flat (b.take n) N R :=
  ⟨Nat.le_trans (List.length_take_le' n b) h.len, fun i hi => h.flat i (List.mem_of_mem_take hi), fun i hi => h.cnt i (List.mem_of_mem_take hi)⟩
theorem flat2 {c d : Int} {R : Nat} (hc : c.natAbs ≤ R) (hd : d.natAbs ≤ R) : Flat [.turn c, .step d] 2 R := by
  refine ⟨Nat.le_refl _, fun i hi => ?_, fun i hi => ?_⟩
  all_goals
    rcases List.mem_cons.mp hi with rfl | hi
    · first
      | exact trivial
      | exact hc
    rcases List.mem_cons.mp hi with rfl | hi
    · first
      | exact trivial
      | exact hd
    exact absurd hi List.not_mem_nil
theorem flat1 {i : Ins} {R : Nat} (h1 : isFlat i) (hc : (cntOf i).natAbs ≤ R) : Flat [i] 1 R := by
  refine ⟨Nat.le_refl _, fun j hj => ?_, fun j hj => ?_⟩
  · rw [List.mem_singleton.mp hj]
    exact h1
  · rw [List.mem_singleton.mp hj]
    exact hc
theorem new_at {H : Hp} {p : Addr} {o : HO} (_ : H p = none) : upd H p o p = some o := upd_same
/-- a list that is a small program -/
def OptAt (K : PySem.W.Frag) (H : Hp) (v : V) : Prop := ∃ a xs b, v = .ref a ∧ H a = some (.lst xs) ∧ IVs K H xs b ∧ PrR b 2 10 (10 ^ 31)
theorem OptAt.same {K : PySem.W.Frag} {H H' : Hp} {v : V} (s : Same H H') (h : OptAt K H v) : OptAt K H' v := by
  obtain ⟨a, xs, b, rfl, h1, h2, h3⟩ := h
  exact ⟨a, xs, b, rfl, s _ _ h1, h2.same s, h3⟩
theorem OptAt.kp {K : PySem.W.Frag} {H H' : Hp} {p c : Addr} {n : Nat} {v : V} (pen : PenAt H p c n) (k : Kp p H H') (h : OptAt K H v) : OptAt K H' v := by
  obtain ⟨a, xs, b, rfl, h1, h2, h3⟩ := h
  exact ⟨a, xs, b, rfl, kp_lst pen k h1, h2.kp pen k, h3⟩
theorem prR_nil {k N : Nat} {R : Int} : PrR [] k N R := by
  have f : Flat [] 0 0 := ⟨Nat.le_refl _, fun i hi => absurd hi List.not_mem_nil, fun i hi => absurd hi List.not_mem_nil⟩
  exact (f.okR (by decide) R).up (Nat.zero_le _) (Nat.zero_le _)
/-! ### [(x, c) for x in a list of ints] -/
theorem lcPairI {K : PySem.W.Frag} {tv' : TE} {σ : L2.St} {H : Hp} {vs : List Nat} {i : Nat} {te : TE} {Q : VK} (G : List Int → Prop) (F : Int → Int × Int) (hv : ∀ R : VK, (∀ a H1 ns, G ns → Same H H1 → H1 a = some (.lst (ns.map V.int)) → R (.ref a) H1) → tv' σ H R) (many : ∀ ns, G ns → ns.length ≤ 100000)
    (hw : ∀ x, wipe ((wipe σ vs).set i (some x)) vs = wipe σ vs)
    (he : ∀ (x : Int) (H2 : Hp), ∀ S : VK, (∀ q, H2 q = none → S (.ref q) (upd H2 q (.tup [.int (F x).1, .int (F x).2]))) → te ((wipe σ vs).set i (some (.int x))) H2 S)
    (k : ∀ D xs ns H2, G ns → Same H H2 → H D = none → H2 D = some (.lst xs) → Prs K H2 xs (ns.map F) → Q (.ref D) H2) : tLc (iList K tv') (gName i) tYes te vs σ H Q := by
  refine hv _ fun a H1 ns g s1 h1 => ?_
  have hn := many ns g
  refine ⟨a, rfl, ⟨_, SqL.of h1⟩, fun D nD => ?_⟩
  refine lc_it (walk_list (K := K) (a := a) (xs := ns.map V.int)) (fun m H2 => ∃ xs, H2 D = some (.lst xs) ∧ Prs K H2 xs ((ns.take m).map F) ∧ Same H1 H2) ⟨[], upd_same, .nil, same_new nD⟩ ?_ ?_ ?_
  · rintro m H2 _ ⟨_, _, _, s2⟩
    exact same_l s2 (SqL.of h1)
  · rintro m v H2 H3 hm ⟨xs, hD, hP, s2⟩ ⟨rfl, gv⟩
    rw [List.length_map] at hm
    obtain rfl : v = .int ns[m] := by
      rw [List.getElem?_map, List.getElem?_eq_getElem hm] at gv
      exact (Option.some.inj gv).symm
    refine ⟨hw _, ?_⟩
    dsimp only [tYes]
    rw [if_pos rfl]
    refine he _ _ _ fun q nq => ?_
    have hD4 : upd H3 q (.tup [.int (F ns[m]).1, .int (F ns[m]).2]) D = some (.lst xs) := (upd_ne (ne_of_none hD nq)).trans hD
    have t2 : Tp (upd H3 q (.tup [.int (F ns[m]).1, .int (F ns[m]).2])) (upd (upd H3 q (.tup [.int (F ns[m]).1, .int (F ns[m]).2])) D (.lst (xs ++ [.ref q]))) := tp_lst hD4
    have lx := hP.len
    rw [List.length_map, List.length_take] at lx
    refine ⟨xs, hD4, sl_lt (by omega), xs ++ [.ref q], upd_same, ?_, same_mut (s2.trans (same_new nq)) nD⟩
    rw [List.take_succ_eq_append_getElem hm, List.map_append]
    exact Prs.snoc (Prs.tp ((tp_new nq).trans t2) hP) (IsPr.tp t2 isPr_new)
  · rintro H2 ⟨xs, hD, hP, s2⟩
    rw [List.length_map, List.take_length] at hP
    refine k D xs ns H2 g (s1.trans s2) ?_ hD hP
    cases e : H D with
    | none => rfl
    | some o =>
      rw [s1 _ _ e] at nD
      cases nD
end DR
namespace DR
open PySem PySem.Spec PyProof.Rows L2
/-! ### tuples of any data, cut and put together -/
theorem all_fits {n k : Nat} : ∀ (ds : List PyData), (∀ d ∈ ds, Fits n k d) → PyData.showableAll ds = true ∧ PyData.hasDictAll ds = false ∧ PyData.depthAll ds ≤ k ∧ ((ds.map PyData.shown).map (·.length)).sum ≤ n * ds.length
  | [], _ => ⟨rfl, rfl, Nat.zero_le _, Nat.zero_le _⟩
  | d :: r, h => by
    have a := h d List.mem_cons_self
    obtain ⟨b1, b2, b3, b4⟩ := all_fits r fun x hx => h x (List.mem_cons_of_mem _ hx)
    refine ⟨?_, ?_, ?_, ?_⟩
    · show (d.showable && PyData.showableAll r) = true
      rw [a.sh, b1]
      rfl
    · show (d.hasDict || PyData.hasDictAll r) = false
      rw [a.nd, b2]
      rfl
    · show max d.depth (PyData.depthAll r) ≤ k
      have := a.dp
      omega
    · rw [List.map_cons, List.map_cons, List.sum_cons, List.length_cons, Nat.mul_add, Nat.mul_one]
      have := a.ln
      omega
theorem shown_map : ∀ ds : List PyData, PyData.shownAll ds = ds.map PyData.shown
  | [] => rfl
  | d :: r => by
    show d.shown :: PyData.shownAll r = _
    rw [shown_map r]
    rfl
theorem fits_tupN {n k : Nat} {ds : List PyData} (h : ∀ d ∈ ds, Fits n k d) : Fits (n * ds.length + 2 * ds.length + 3) (k + 1) (.tuple ds) := by
  obtain ⟨a, b, c, e⟩ := all_fits ds h
  refine ⟨a, b, Nat.succ_le_succ c, ?_⟩
  show (tupleText (PyData.shownAll ds)).length ≤ _
  have t := tupleText_len_le (PyData.shownAll ds)
  rw [shown_map] at t ⊢
  rw [List.length_map] at t
  omega
section
variable {K : PySem.W.Frag} {H0 H H' : Hp} {v u : V} {n m : Nat} {Q : VK}
def TV (K : PySem.W.Frag) (H0 H : Hp) (v : V) (n : Nat) : Prop := ∃ (a : Addr) (xs : List V) (ds : List PyData), v = .ref a ∧ SqT K (er H0 H) a xs ∧ DpAll K (er H0 H) xs ds ∧ (∀ d ∈ ds, Nice 25000 3 d) ∧ ds.length ≤ n
theorem TV.same (s : Same H H') (h : TV K H0 H v n) : TV K H0 H' v n := by
  obtain ⟨a, xs, ds, e, h1, h2, h3⟩ := h
  exact ⟨a, xs, ds, e, same_t (er_same s) h1, DpAll.same (er_same s) h2, h3⟩
theorem TV.kpd {p c c' : Addr} {i j : Nat} (pen0 : PenAt H0 p c i) (pen : PenAt H p c' j) (k : Kp p H H') (h : TV K H0 H v n) : TV K H0 H' v n := by
  obtain ⟨a, xs, ds, e, h1, h2, h3⟩ := h
  obtain ⟨kvs, hp⟩ := pen.dict
  obtain ⟨kvs0, hp0⟩ := pen0.dict
  have hp' : er H0 H p = some (.dK kvs) := er_of hp fun xs e => by rw [hp0] at e; cases e
  exact ⟨a, xs, ds, e, tp_t (tp_kp hp' (er_kp k)) h1, DpAll.kpd hp' (er_kp k) h2, h3⟩
theorem TV.mono (h : TV K H0 H v n) (hm : n ≤ m) : TV K H0 H v m := by
  obtain ⟨a, xs, ds, e, h1, h2, h3, h4⟩ := h
  exact ⟨a, xs, ds, e, h1, h2, h3, Nat.le_trans h4 hm⟩
theorem TV.sq (h : TV K H0 H v n) : ∃ a xs, v = .ref a ∧ SqT K H a xs ∧ xs.length ≤ n := by
  obtain ⟨a, xs, ds, e, h1, h2, _, h4⟩ := h
  exact ⟨a, xs, e, same_t (er_sub H0 H) h1, by rw [DpAll.len h2]; exact h4⟩
theorem tv_new {xs : List V} {ds : List PyData} {b : Addr} (al : Al H0 H) (nb : H b = none) (h : DpAll K (er H0 H) xs ds) (hn : ∀ d ∈ ds, Nice 25000 3 d) (hl : ds.length ≤ n) : TV K H0 (upd H b (.tup xs)) (.ref b) n :=
  ⟨b, xs, ds, rfl, same_t (er_new al nb) (SqT.of upd_same), DpAll.same (er_same (same_new nb)) h, hn, hl⟩
theorem DpAll.takeN : ∀ {xs : List V} {ds : List PyData} (k : Nat), DpAll K H xs ds → DpAll K H (xs.take k) (ds.take k)
  | _, _, 0, _ => by rw [List.take_zero, List.take_zero]; exact .nil
  | _, _, _ + 1, .nil => .nil
  | _, _, k + 1, .cons h t => .cons h (DpAll.takeN k t)
theorem DpAll.dropN : ∀ {xs : List V} {ds : List PyData} (k : Nat), DpAll K H xs ds → DpAll K H (xs.drop k) (ds.drop k)
  | _, _, 0, h => h
  | _, _, _ + 1, .nil => .nil
  | _, _, k + 1, .cons _ t => DpAll.dropN k t
theorem tv_cut {lo hi : Option Int} (al : Al H0 H) (h : TV K H0 H v n) (k : ∀ u H', Same H H' → Al H0 H' → TV K H0 H' u n → Q u H') : rSlA K v lo hi H Q := by
  obtain ⟨a, xs, ds, rfl, h1, h2, h3, h4⟩ := h
  have hl := DpAll.len h2
  refine ⟨a, xs, rfl, same_t (er_sub H0 H) h1, fun _ => k _ _ (Same.refl H) al ⟨a, xs, ds, rfl, h1, h2, h3, h4⟩, fun _ p np => ?_⟩
  refine k _ _ (same_new np) (al.same (same_new np)) (tv_new (ds := (ds.drop (HT.sIx xs.length 0 lo)).take (HT.sIx xs.length xs.length hi - HT.sIx xs.length 0 lo)) al np (DpAll.takeN _ (DpAll.dropN _ h2)) (fun d hd => h3 d (List.mem_of_mem_drop (List.mem_of_mem_take hd))) ?_)
  rw [List.length_take, List.length_drop]
  omega
theorem tv_cat (al : Al H0 H) (h : TV K H0 H v n) (h' : TV K H0 H u m) (hnm : n + m ≤ 1000) (k : ∀ w H', Same H H' → Al H0 H' → TV K H0 H' w (n + m) → Q w H') : rCatA K v u H Q := by
  obtain ⟨a, xs, ds, rfl, h1, h2, h3, h4⟩ := h
  obtain ⟨b, ys, es, rfl, g1, g2, g3, g4⟩ := h'
  have hl := DpAll.len h2
  have gl := DpAll.len g2
  refine ⟨a, b, xs, ys, rfl, rfl, same_t (er_sub H0 H) h1, same_t (er_sub H0 H) g1, sl_of (by omega), fun _ => k _ _ (Same.refl H) al ⟨b, ys, es, rfl, g1, g2, g3, by omega⟩, fun _ _ => k _ _ (Same.refl H) al ⟨a, xs, ds, rfl, h1, h2, h3, by omega⟩, fun _ _ p np => ?_⟩
  refine k _ _ (same_new np) (al.same (same_new np)) (tv_new (ds := ds ++ es) al np (DpAll.append h2 g2) (fun d hd => ?_) (by rw [List.length_append]; omega))
  rcases List.mem_append.mp hd with z | z
  · exact h3 d z
  · exact g3 d z
theorem TV.good (h : TV K H0 H v n) (hn : n ≤ 35) : Good K (er H0 H) v := by
  obtain ⟨a, xs, ds, rfl, h1, h2, h3, h4⟩ := h
  refine ⟨.tuple ds, .inl (.tup h1 h2), (fits_tupN (n := 25000) (k := 3) fun d hd => (h3 d hd).f).shw ?_ (by decide) (show ds.length ≤ 1000000 by omega) fun es e x hx => ?_⟩
  · have : 25000 * ds.length ≤ 25000 * 35 := Nat.mul_le_mul_left _ (by omega)
    omega
  · cases PyData.tuple.inj e
    exact (h3 x hx).tl
theorem tv_pol {g : Pol} (hs : ∀ t ∈ g, t.1.natAbs < 10 ^ 100 ∧ t.2.natAbs < 10 ^ 100) (h : TPol K H v g) (hl : g.length ≤ n) : TV K H H v n := by
  obtain ⟨a, xs, rfl, h1, h2⟩ := h
  refine ⟨a, xs, g.map pr, rfl, tp_t (er_tp H) h1, (Prs.tp (er_tp H) h2).dp, fun d hd => ?_, by rw [List.length_map]; exact hl⟩
  obtain ⟨t, ht, rfl⟩ := List.mem_map.mp hd
  obtain ⟨b1, b2⟩ := hs t ht
  exact (nice_2 (nice_int b1) (nice_int b2)).up (by decide) (by decide)
end
def sp__law_changed1 (K : PySem.W.Frag) : Sp := fun vs H Q _ => ∃ (p c : Addr) (q : Int) (e : V) (g : Pol) (n : Nat), vs = [.ref p, .int q, e] ∧ 2 ≤ q ∧ q ≤ 97 ∧ TPol K H e g ∧ 0 < g.length ∧ g.length ≤ 16 ∧ (∀ t ∈ g, t.1.natAbs < 10 ^ 90 ∧ t.2.natAbs < 10 ^ 90) ∧ PenAt H p c n ∧ n < 2 ^ 38 ∧ ∀ v H', Kp p H H' → PenAt H' p c (n + 4) → Good K (er H H') v → Q v H'
def FN (n k : Nat) (K : PySem.W.Frag) (H : Hp) (v : V) : Prop := ∃ d, Dp K H v d ∧ Nice n k d
section
variable {K : PySem.W.Frag} {H0 H H' : Hp} {v w x : V} {n k : Nat} {b : Addr}
theorem FN.same (e : Same H H') (h : FN n k K H v) : FN n k K H' v := h.elim fun d z => ⟨d, Dp.same e z.1, z.2⟩
theorem FN.kpd {p c c' : Addr} {i j : Nat} (pen0 : PenAt H0 p c i) (pen : PenAt H p c' j) (kp : Kp p H H') (h : FN n k K (er H0 H) v) : FN n k K (er H0 H') v := h.elim fun d z => by
  obtain ⟨kvs, hp⟩ := pen.dict
  obtain ⟨kvs0, hp0⟩ := pen0.dict
  exact ⟨d, Dp.kpd (er_of hp fun xs e => by rw [hp0] at e; cases e) (er_kp kp) z.1, z.2⟩
theorem FN.up {n' k' : Nat} (h : FN n k K H v) (a : n ≤ n') (c : k ≤ k') : FN n' k' K H v := h.elim fun d z => ⟨d, z.1, z.2.up a c⟩
theorem fn_int {i : Int} (h : i.natAbs < 10 ^ 100) : FN 101 0 K H (.int i) := ⟨_, .int i, nice_int h⟩
theorem fn_t1 (al : Al H0 H) (nb : H b = none) (h : FN n k K (er H0 H) v) : FN (n + 5) (k + 1) K (er H0 (upd H b (.tup [v]))) (.ref b) := h.elim fun d z => ⟨_, Dp.same (er_new al nb) (dn_tup (er_none nb) _ _ (.cons (Dp.same (same_new (er_none nb)) z.1) .nil)), nice_1 z.2⟩
theorem fn_t2 {n' k' : Nat} (al : Al H0 H) (nb : H b = none) (h : FN n k K (er H0 H) v) (h' : FN n' k' K (er H0 H) w) : FN (n + n' + 7) (max k k' + 1) K (er H0 (upd H b (.tup [v, w]))) (.ref b) := h.elim fun d z => h'.elim fun d' z' => ⟨_, Dp.same (er_new al nb) (dn_tup (er_none nb) _ _ (.cons (Dp.same (same_new (er_none nb)) z.1) (.cons (Dp.same (same_new (er_none nb)) z'.1) .nil))), nice_2 z.2 z'.2⟩
theorem fn_l2 {n' k' : Nat} (al : Al H0 H) (nb : H b = none) (h : FN n k K (er H0 H) v) (h' : FN n' k' K (er H0 H) w) : FN (n + n' + 7) (max k k' + 1) K (er H0 (upd H b (.lst [v, w]))) (.ref b) := h.elim fun d z => h'.elim fun d' z' => ⟨_, Dp.same (er_new al nb) (dn_lst (er_none nb) _ _ (.cons (Dp.same (same_new (er_none nb)) z.1) (.cons (Dp.same (same_new (er_none nb)) z'.1) .nil))), nice_l2 z.2 z'.2⟩
theorem fn_t3 {n' k' n2 k2 : Nat} (al : Al H0 H) (nb : H b = none) (h : FN n k K (er H0 H) v) (h' : FN n' k' K (er H0 H) w) (h2 : FN n2 k2 K (er H0 H) x) : FN (n + n' + n2 + 9) (max k (max k' k2) + 1) K (er H0 (upd H b (.tup [v, w, x]))) (.ref b) := h.elim fun d z => h'.elim fun d' z' => h2.elim fun d2 z2 => ⟨_, Dp.same (er_new al nb) (dn_tup (er_none nb) _ _ (.cons (Dp.same (same_new (er_none nb)) z.1) (.cons (Dp.same (same_new (er_none nb)) z'.1) (.cons (Dp.same (same_new (er_none nb)) z2.1) .nil)))), nice_3 z.2 z'.2 z2.2⟩
theorem tv_one (al : Al H0 H) (nb : H b = none) (h : FN 25000 3 K (er H0 H) v) : TV K H0 (upd H b (.tup [v])) (.ref b) 1 := h.elim fun d z => tv_new al nb (.cons z.1 .nil) (fun d' hd => by rw [List.mem_singleton.mp hd]; exact z.2) (Nat.le_refl _)
theorem fits_listN {m j : Nat} {ds : List PyData} (h : ∀ d ∈ ds, Fits m j d) : Fits (m * ds.length + 2 * ds.length + 3) (j + 1) (.list ds) := by
  obtain ⟨a, b, c, e⟩ := all_fits ds h
  refine ⟨a, b, Nat.succ_le_succ c, ?_⟩
  show (listText (PyData.shownAll ds)).length ≤ _
  have t := listText_len_le (PyData.shownAll ds)
  rw [shown_map] at t ⊢
  rw [List.length_map] at t
  omega
theorem tv_list (al : Al H0 H) (h : TV K H0 H v n) (hn : n ≤ 35) : ∃ a xs, v = .ref a ∧ SqT K H a xs ∧ ∀ l, H l = none → Good K (er H0 (upd H l (.lst xs))) (.ref l) := by
  obtain ⟨a, xs, ds, rfl, h1, h2, h3, h4⟩ := h
  refine ⟨a, xs, rfl, same_t (er_sub H0 H) h1, fun l nl => ⟨.list ds, .inl (Dp.same (er_new al nl) (dn_lst (er_none nl) _ _ (DpAll.same (same_new (er_none nl)) h2))), (fits_listN (m := 25000) (j := 3) fun d hd => (h3 d hd).f).shw ?_ (by decide) (Nat.zero_le _) fun es e => by cases e⟩⟩
  have : 25000 * ds.length ≤ 25000 * 35 := Nat.mul_le_mul_left _ (by omega)
  omega
theorem tv_rev (al : Al H0 H) (h : TV K H0 H v n) : ∃ a xs, v = .ref a ∧ SqT K H a xs ∧ ∀ b, H b = none → TV K H0 (upd H b (.tup xs.reverse)) (.ref b) n := by
  obtain ⟨a, xs, ds, rfl, h1, h2, h3, h4⟩ := h
  exact ⟨a, xs, rfl, same_t (er_sub H0 H) h1, fun b nb => tv_new (ds := ds.reverse) al nb (DpAll.rev h2) (fun d hd => h3 d (List.mem_reverse.mp hd)) (by rw [List.length_reverse]; exact h4)⟩
end
end DR
namespace DR
open PySem PySem.Spec PyProof.Rows L2
def topS (i : Nat) : Stmt := PySem.Challenge.pw_dialroad_k28_limit_of_executed_instructi.main.body.getD i (.Pass ⟨0, 0, 0, 0⟩)
abbrev s_from_sums : Stmt := topS 4
abbrev s_executed : Stmt := topS 7
abbrev s_unrolled : Stmt := topS 8
abbrev s_effect_of : Stmt := topS 9
abbrev s__law_pen : Stmt := topS 11
abbrev s__law_draw : Stmt := topS 12
abbrev s__law_pick : Stmt := topS 13
abbrev s__law_prime : Stmt := topS 14
abbrev s__law_integer : Stmt := topS 15
abbrev s__law_normal : Stmt := topS 16
abbrev s__law_handed : Stmt := topS 17
abbrev s__law_shift : Stmt := topS 18
abbrev s__law_executed : Stmt := topS 19
abbrev s__law_full_program : Stmt := topS 20
abbrev s__law_terms : Stmt := topS 21
abbrev s__law_outcome : Stmt := topS 22
abbrev s__law_near_limit : Stmt := topS 23
abbrev s__law_idle : Stmt := topS 24
abbrev s__law_spread : Stmt := topS 25
abbrev s_law : Stmt := topS 26
/-- the built-in names that the texts use are still the built-in ones -/
structure Blt (mg : Str → Option Value) : Prop where
  tuple : mg "tuple" = none
  sorted : mg "sorted" = none
  range : mg "range" = none
  list : mg "list" = none
  len : mg "len" = none
  abs : mg "abs" = none
  repr : mg "repr" = none
  int : mg "int" = none
  bool : mg "bool" = none
  dict : mg "dict" = none
  min : mg "min" = none
  max : mg "max" = none
  zip : mg "zip" = none
  all : mg "all" = none
  isinstance : mg "isinstance" = none
  sum : mg "sum" = none
  any : mg "any" = none
  str : mg "str" = none
  set : mg "set" = none
section
variable {P : Program} {w : World} {K : PySem.W.Frag} {mg : Str → Option Value} {base : Heap}
abbrev s___init_T : Stmt := inClass (topS 2) 0
theorem sc___init_T : FnScope ["self", "limit"] ["self", "limit"] (defScope s___init_T) := ⟨rfl, rfl, rfl, by decide +kernel, rfl, by decide +kernel, by decide +kernel⟩
theorem ok___init_T {f : Addr} {fd : FuncData} {C : Addr} (F : Fun K "__init__" "TooLong.__init__" s___init_T f fd) (T : Over K "ArithmeticError" "ArithmeticError.__new__" "ArithmeticError.__init__" [.type "ArithmeticError", .type "Exception", .type "BaseException", .type "object"] C) (hno : PySem.W.findIn K (.ref C) "limit" = some none) : FnOk P w K mg base CX0 1 f fd ["self", "limit"] (sp_first C "limit") := by
  refine F.ok sc___init_T (fun vs H Q E h => ?_) (fun cdv A outer s H vs Q E hr h => ?_)
  · obtain ⟨a, v, rfl, _⟩ := h
    rfl
  · obtain ⟨a, v, rfl, ea, k⟩ := h
    exact ⟨_, pss_one (ps_first (pv 0) (pv 1)), _, rfl, _, rfl, a, C, rfl, T, hno, ea, k⟩
/-- what the written part says of TooLong -/
structure LimRaw (K : PySem.W.Frag) (mg : Str → Option Value) (C : Addr) : Prop where
  gl : mg "TooLong" = some (.ref C)
  ov : Over K "ArithmeticError" "ArithmeticError.__new__" "ArithmeticError.__init__" [.type "ArithmeticError", .type "Exception", .type "BaseException", .type "object"] C
  no : PySem.W.findIn K (.ref C) "limit" = some none
  ex : ∃ fI fd, PySem.W.findIn K (.ref C) "__init__" = some (some (.ref fI)) ∧ PySem.W.typeIn K (.ref fI) = some (.type "function") ∧ Fun K "__init__" "TooLong.__init__" s___init_T fI fd
theorem lim_of {C : Addr} (Z : LimRaw K mg C) : LimF P w K mg base C := ⟨Z.ov, Z.gl, Z.no, by
  obtain ⟨fI, fd, h1, h2, F⟩ := Z.ex
  exact ⟨fI, fd, ["self", "limit"], h1, h2, ok___init_T F Z.ov Z.no, F.binds fun _ _ _ _ _ _ us hl => match us, hl with | [_, _], _ => rfl⟩⟩
theorem sc_from_sums : FnScope ["prime", "sums", "exponent"] ["prime", "sums"] (defScope s_from_sums) := ⟨rfl, rfl, rfl, by decide +kernel, rfl, by decide +kernel, by decide +kernel⟩
theorem ok_from_sums {f : Addr} {fd : FuncData} (F : Fun K "from_sums" "from_sums" s_from_sums f fd) (B : Blt mg) : FnOk P w K mg base CX0 1 f fd ["prime", "sums"] (sp_from_sums K) := by
  refine F.ok sc_from_sums (fun vs H Q E h => ?_) (fun cdv A outer s H vs Q E hr h => ?_)
  · obtain ⟨p, d, m, rfl, _⟩ := h
    rfl
  · obtain ⟨p, d, m, rfl, hp, hd, hn, hl, k⟩ := h
    have hu := hu_of hr
    have nd := sc_from_sums.nd
    refine ⟨_, (pss_one (ps_ret (pe_callTy call_tuple_of (by rfl) B.tuple (by decide +kernel) (pa_cons (pe_lc (own := [("exponent", 2)]) (by rfl) nd (pi_list (pe_callB (call_sortedDA rfl) (by rfl) B.sorted (by decide +kernel) (pa_cons (pv 1) pa_nil))) (blkOk_by (N := ["prime", "sums", "exponent"]) (sc := defScope s_from_sums) (own := [("exponent", 2)]) (by decide +kernel)) (fun _ _ _ _ _ => (pg_name (i := 2) nd rfl (.inl rfl))) (fun _ _ _ _ _ => (pts_one (pt_cmpR op_ne (pe_op op_mod (pe_dget hu (pv 1) (pv 2) (fun _ _ => rfl)) (pv 0)) pe_int (nomark _)))) (fun _ _ _ _ _ => (pe_tup (pa_cons (pv 2) (pa_cons (pe_op op_mod (pe_dget hu (pv 1) (pv 2) (fun _ _ => rfl)) (pv 0)) pa_nil))))) pa_nil)))), ?_⟩
    refine ⟨_, rfl, d, kvOf m, m.map (·.1), rfl, .inl hd, kv_keys m, fun ys a perm srt na => ?_⟩
    refine ⟨a, rfl, ⟨_, SqL.of upd_same⟩, fun D nD => ?_⟩
    have sa : Same H (upd H a (.lst (ys.map V.int))) := same_new na
    have hl' : ys.length ≤ 1000000 := by
      rw [perm.length_eq, List.length_map]
      exact hl
    refine lc_list (K := K) (a := a) (xs := ys.map V.int) (fun i H2 => Grow K (upd H a (.lst (ys.map V.int))) D (kept p (cf m) (ys.take i)) H2) (.start nD) ?_ ?_ ?_
    · exact fun i H2 _ h => SqL.of (h.same _ _ upd_same)
    · intro i x H2 hi g
      obtain ⟨e, he, rfl⟩ := ints_get hi
      have h2d := g.same _ _ (sa _ _ hd)
      have hm : e ∈ m.map (·.1) := perm.mem_iff.mp (List.mem_of_getElem? he)
      have hlen : (kept p (cf m) (ys.take i)).length < 1000000 := by
        have h1 := kept_len p (cf m) (ys.take i)
        have h2 : i < ys.length := (List.getElem?_eq_some_iff.mp he).1
        rw [List.length_take] at h1
        omega
      refine ⟨rfl, _, rfl, _, rfl, d, _, rfl, dget_int h2d hn hm, _, rfl, _, _, rfl, rfl, hp, rfl, _, rfl, ?_⟩
      show if (!decide (V.int (cf m e % p) = V.int 0)) = true then _ else _
      rw [take_snoc he, kept_snoc]
      by_cases z : cf m e % p = 0
      · rw [z, if_neg (by simp), if_neg (by simp), List.append_nil]
        exact g
      · have zz : (!decide (V.int (cf m e % p) = V.int 0)) = true := by simp [z]
        rw [zz]
        refine iteT ?_
        refine ⟨_, rfl, _, rfl, _, rfl, d, _, rfl, dget_int h2d hn hm, _, rfl, _, _, rfl, rfl, hp, sl_of (show 2 ≤ 1000000 by decide), fun q nq => ?_⟩
        obtain ⟨acc, h1, h2, h3⟩ := g.step nD nq e (cf m e % p) hlen
        rw [if_pos z]
        exact ⟨acc, h1, h2, h3⟩
    · rintro H2 ⟨s2, xs, h2D, hP⟩
      rw [List.length_map, List.take_length] at hP
      refine ⟨D, xs, rfl, .inl ⟨SqL.of h2D, fun t nt => ?_⟩⟩
      refine k _ _ (kept p (cf m) ys) ((sa.trans s2).trans (same_new nt)) ⟨t, xs, rfl, SqT.of upd_same, Prs.tp (tp_new nt) hP⟩ (kept_nf hp srt (perm.nodup_iff.mpr hn) fun e he => ?_)
      rw [cf_out (fun z => he (perm.mem_iff.mpr z))]
      rfl
theorem sc_executed : FnScope ["program", "total", "instruction"] ["program"] (defScope s_executed) := ⟨rfl, rfl, rfl, by decide +kernel, rfl, by decide +kernel, by decide +kernel⟩
theorem ok_executed (k : Nat) (C_executed : Cal P w K mg base (k + 0) "executed" (sp_executed K k)) {f : Addr} {fd : FuncData} (F : Fun K "executed" "executed" s_executed f fd) (B : Blt mg) : FnOk P w K mg base CX0 (k + 0 + 1) f fd ["program"] (sp_executed K (k + 1)) := by
  refine F.ok sc_executed (fun vs H Q E h => ?_) (fun cdv A outer s H vs Q E hr h => ?_)
  · obtain ⟨v, b, rfl, _⟩ := h
    rfl
  · obtain ⟨v, b, rfl, hv, hd, hk, hw, hl, q⟩ := h
    have nd := sc_executed.nd
    obtain ⟨a, xs, rfl, hsq, hI⟩ := hv.inv
    rcases hsq with hs | hs
    · refine ⟨_, (pss_cons (ps_set (i := 1) nd rfl (.inl rfl) pe_int)
    (pss_cons (ps_for PassesOwn.never rfl (pi_list (pv 0)) (pg_name (i := 2) nd rfl (.inl rfl))
      (pss_one (ps_if (pt_cmpR op_eq (pe_ix ix_tup (pv 2) pe_int (fun _ _ => rfl)) pe_str (nomark _))
      (pss_one (ps_aug (i := 1) nd rfl (.inl rfl) (pe_op op_mulW (pe_ix ix_tup (pv 2) pe_int (fun _ _ => rfl)) (pe_c C_executed hr (by omega) (by rfl) (pa_cons (pe_ix ix_tup (pv 2) pe_int (fun _ _ => rfl)) pa_nil))) ip_add))
      (pss_one (ps_aug (i := 1) nd rfl (.inl rfl) pe_int ip_add)))))
    (pss_one (ps_ret (pv 1))))), ?_⟩
      refine ⟨_, rfl, a, rfl, ⟨_, hs⟩, for_list (K := K) (a := a) (xs := xs) (fun j σ H2 => ∃ y, σ = [some (.ref a), some (.int (exP (b.take j))), y] ∧ H2 = H) ⟨none, by rw [List.take_zero, exP_nil]; rfl, rfl⟩ ?_ ?_ ?_⟩
      · rintro j σ H2 _ ⟨y, _, rfl⟩
        exact hs
      · rintro j x σ H2 hj ⟨y, rfl, rfl⟩
        obtain ⟨i, hi, hx⟩ := hI.get hj
        have hm := List.mem_of_getElem? hi
        rcases hx.inv with ⟨c, n, rfl, ht, rfl⟩ | ⟨c, n, rfl, ht, rfl⟩ | ⟨c, n, y, bb, rfl, ht, hy, rfl⟩
        · refine ⟨_, rfl, c, _, 0, _, rfl, rfl, ht, rfl, rfl, _, rfl, iteN v_sr ?_⟩
          refine ⟨_, rfl, _, _, rfl, rfl, some (.ref c), ?_, rfl⟩
          rw [exP_snoc hi, exI]
          rfl
        · refine ⟨_, rfl, c, _, 0, _, rfl, rfl, ht, rfl, rfl, _, rfl, iteN v_tr ?_⟩
          refine ⟨_, rfl, _, _, rfl, rfl, some (.ref c), ?_, rfl⟩
          rw [exP_snoc hi, exI]
          rfl
        · refine ⟨_, rfl, c, _, 0, _, rfl, rfl, ht, rfl, rfl, _, rfl, iteS rfl ?_⟩
          have hdi := dpP_mem hm
          rw [dpI] at hdi
          have wi := WP_mem hw hm
          rw [WI] at wi
          refine ⟨_, rfl, _, rfl, c, _, 1, _, rfl, rfl, ht, rfl, _, rfl, c, _, 2, _, rfl, rfl, ht, rfl, y, bb, rfl, hy, by omega, by omega, wi.2.2, wi.2.1, n, exP bb, rfl, rfl, wide_mul (a := 101) (b := 331) (Nat.lt_of_le_of_lt wi.1 (by decide +kernel)) (ex_lt (k := k) (by omega) (by omega) wi.2.2 wi.2.1) (by decide) (by decide) (by decide), _, _, rfl, rfl, some (.ref c), ?_, rfl⟩
          rw [exP_snoc hi, exI]
          rfl
      · rintro σ H2 ⟨y, rfl, rfl⟩
        rw [hI.len, List.take_length]
        exact ⟨_, rfl, q⟩
    · refine ⟨_, (pss_cons (ps_set (i := 1) nd rfl (.inl rfl) pe_int)
    (pss_cons (ps_for PassesOwn.never rfl (pi_tup (pv 0)) (pg_name (i := 2) nd rfl (.inl rfl))
      (pss_one (ps_if (pt_cmpR op_eq (pe_ix ix_tup (pv 2) pe_int (fun _ _ => rfl)) pe_str (nomark _))
      (pss_one (ps_aug (i := 1) nd rfl (.inl rfl) (pe_op op_mulW (pe_ix ix_tup (pv 2) pe_int (fun _ _ => rfl)) (pe_c C_executed hr (by omega) (by rfl) (pa_cons (pe_ix ix_tup (pv 2) pe_int (fun _ _ => rfl)) pa_nil))) ip_add))
      (pss_one (ps_aug (i := 1) nd rfl (.inl rfl) pe_int ip_add)))))
    (pss_one (ps_ret (pv 1))))), ?_⟩
      refine ⟨_, rfl, a, rfl, ⟨_, hs⟩, for_tup (K := K) (a := a) (xs := xs) (fun j σ H2 => ∃ y, σ = [some (.ref a), some (.int (exP (b.take j))), y] ∧ H2 = H) ⟨none, by rw [List.take_zero, exP_nil]; rfl, rfl⟩ ?_ ?_ ?_⟩
      · rintro j σ H2 _ ⟨y, _, rfl⟩
        exact hs
      · rintro j x σ H2 hj ⟨y, rfl, rfl⟩
        obtain ⟨i, hi, hx⟩ := hI.get hj
        have hm := List.mem_of_getElem? hi
        rcases hx.inv with ⟨c, n, rfl, ht, rfl⟩ | ⟨c, n, rfl, ht, rfl⟩ | ⟨c, n, y, bb, rfl, ht, hy, rfl⟩
        · refine ⟨_, rfl, c, _, 0, _, rfl, rfl, ht, rfl, rfl, _, rfl, iteN v_sr ?_⟩
          refine ⟨_, rfl, _, _, rfl, rfl, some (.ref c), ?_, rfl⟩
          rw [exP_snoc hi, exI]
          rfl
        · refine ⟨_, rfl, c, _, 0, _, rfl, rfl, ht, rfl, rfl, _, rfl, iteN v_tr ?_⟩
          refine ⟨_, rfl, _, _, rfl, rfl, some (.ref c), ?_, rfl⟩
          rw [exP_snoc hi, exI]
          rfl
        · refine ⟨_, rfl, c, _, 0, _, rfl, rfl, ht, rfl, rfl, _, rfl, iteS rfl ?_⟩
          have hdi := dpP_mem hm
          rw [dpI] at hdi
          have wi := WP_mem hw hm
          rw [WI] at wi
          refine ⟨_, rfl, _, rfl, c, _, 1, _, rfl, rfl, ht, rfl, _, rfl, c, _, 2, _, rfl, rfl, ht, rfl, y, bb, rfl, hy, by omega, by omega, wi.2.2, wi.2.1, n, exP bb, rfl, rfl, wide_mul (a := 101) (b := 331) (Nat.lt_of_le_of_lt wi.1 (by decide +kernel)) (ex_lt (k := k) (by omega) (by omega) wi.2.2 wi.2.1) (by decide) (by decide) (by decide), _, _, rfl, rfl, some (.ref c), ?_, rfl⟩
          rw [exP_snoc hi, exI]
          rfl
      · rintro σ H2 ⟨y, rfl, rfl⟩
        rw [hI.len, List.take_length]
        exact ⟨_, rfl, q⟩
theorem sc_unrolled : FnScope ["program", "found", "instruction", "inner"] ["program"] (defScope s_unrolled) := ⟨rfl, rfl, rfl, by decide +kernel, rfl, by decide +kernel, by decide +kernel⟩
theorem FIs.app {H : Hp} : ∀ {xs ys : List V} {b c : List Ins}, FIs K H xs b → FIs K H ys c → FIs K H (xs ++ ys) (b ++ c)
  | _, _, _, _, .nil, h => h
  | _, _, _, _, .cons r q, h => .cons r (FIs.app q h)
theorem FIs.repl {H : Hp} {xs : List V} {b : List Ins} (h : FIs K H xs b) : ∀ n : Nat, FIs K H (List.replicate n xs).flatten (List.replicate n b).flatten
  | 0 => .nil
  | n + 1 => by
    rw [List.replicate_succ, List.replicate_succ, List.flatten_cons, List.flatten_cons]
    exact FIs.app h (FIs.repl h n)
theorem flat_len {α : Type} (xs : List α) : ∀ n : Nat, (List.replicate n xs).flatten.length = xs.length * n
  | 0 => rfl
  | n + 1 => by
    rw [List.replicate_succ, List.flatten_cons, List.length_append, flat_len xs n, Nat.mul_succ, Nat.add_comm]
theorem ok_unrolled (k : Nat) (C_unrolled : Cal P w K mg base (k + 0) "unrolled" (sp_unrolled K k)) {f : Addr} {fd : FuncData} (F : Fun K "unrolled" "unrolled" s_unrolled f fd) (B : Blt mg) : FnOk P w K mg base CX0 (k + 0 + 1) f fd ["program"] (sp_unrolled K (k + 1)) := by
  refine F.ok sc_unrolled (fun vs H Q E h => ?_) (fun cdv A outer s H vs Q E hr h => ?_)
  · obtain ⟨v, b, rfl, _⟩ := h
    rfl
  · obtain ⟨v, b, rfl, hv, hd, hnp, hex, q⟩ := h
    have nd := sc_unrolled.nd
    obtain ⟨a, xs, rfl, hsq, hI⟩ := hv.inv
    rcases hsq with hs | hs
    · refine ⟨_, (pss_cons (ps_set (i := 1) nd rfl (.inl rfl) (pe_lst pa_nil))
    (pss_cons (ps_for PassesOwn.never rfl (pi_list (pv 0)) (pg_name (i := 2) nd rfl (.inl rfl))
      (pss_one (ps_if (pt_cmpR op_ne (pe_ix ix_tup (pv 2) pe_int (fun _ _ => rfl)) pe_str (nomark _))
      (pss_one (ps_expr (pe_bm PySem.F.plainAttrs_list PySem.F.slot_list_append PySem.F.type_list_append mt_append (pv 1) (pa_cons (pv 2) pa_nil))))
      (pss_one (ps_if (pt_cmpR op_gt (pe_ix ix_tup (pv 2) pe_int (fun _ _ => rfl)) pe_int (nomark _))
      (pss_cons (ps_set (i := 3) nd rfl (.inl rfl) (pe_c C_unrolled hr (by omega) (by rfl) (pa_cons (pe_ix ix_tup (pv 2) pe_int (fun _ _ => rfl)) pa_nil)))
    (pss_one (ps_if (pt_truth (pv 3) (by intro _; rfl))
      (pss_one (ps_expr (pe_bm PySem.F.plainAttrs_list PySem.F.slot_list_extend PySem.F.type_list_extend mt_extend (pv 1) (pa_cons (pe_op op_rep (pv 3) (pe_ix ix_tup (pv 2) pe_int (fun _ _ => rfl))) pa_nil))))
      pss_nil)))
      pss_nil)))))
    (pss_one (ps_ret (pv 1))))), ?_⟩
      refine ⟨Nat.zero_le _, fun D nD => ?_⟩
      have s1 := same_new nD (o := HO.lst [])
      refine ⟨_, rfl, a, rfl, ⟨_, same_l s1 hs⟩, for_list (K := K) (a := a) (xs := xs) (fun j σ H2 => ∃ (zs : List V) (y z : Option V), σ = [some (.ref a), some (.ref D), y, z] ∧ Same H H2 ∧ H2 D = some (.lst zs) ∧ FIs K H2 zs (unP (b.take j))) ⟨[], none, none, rfl, s1, upd_same, by rw [List.take_zero, show unP [] = [] by unfold unP; rfl]; exact .nil⟩ ?_ ?_ ?_⟩
      · rintro j σ H2 _ ⟨zs, y, z, _, s2, _⟩
        exact same_l s2 hs
      · rintro j x σ H2 hj ⟨zs, y, z, rfl, s2, hD2, hZ⟩
        obtain ⟨i, hi, hx0⟩ := hI.get hj
        have hx := hx0.same s2
        have hm := List.mem_of_getElem? hi
        have hsn := unP_snoc hi
        have hzl : (zs.length : Int) ≤ 10000 := by
          rw [hZ.len, un_len (NP_take j hnp)]
          exact Int.le_trans (exP_take b j hnp) hex
        rcases hx.inv with ⟨e, m, rfl, ht, rfl⟩ | ⟨e, m, rfl, ht, rfl⟩ | ⟨e, m, y', bb, rfl, ht, hy, rfl⟩
        · refine ⟨_, rfl, e, _, 0, _, rfl, rfl, ht, rfl, rfl, _, rfl, iteNN v_sr ?_⟩
          refine ⟨_, rfl, .inl ⟨rfl, _, SqL.of hD2⟩, _, rfl, D, zs, _, rfl, rfl, hD2, sl_lt (by omega), zs ++ [.ref e], _, _, rfl, same_mut s2 nD, upd_same, ?_⟩
          rw [hsn, unI]
          exact FIs.snoc (hZ.tp (tp_lst hD2)) (FI.tp (tp_lst hD2) (.inl ⟨e, m, rfl, ht, rfl⟩))
        · refine ⟨_, rfl, e, _, 0, _, rfl, rfl, ht, rfl, rfl, _, rfl, iteNN v_tr ?_⟩
          refine ⟨_, rfl, .inl ⟨rfl, _, SqL.of hD2⟩, _, rfl, D, zs, _, rfl, rfl, hD2, sl_lt (by omega), zs ++ [.ref e], _, _, rfl, same_mut s2 nD, upd_same, ?_⟩
          rw [hsn, unI]
          exact FIs.snoc (hZ.tp (tp_lst hD2)) (FI.tp (tp_lst hD2) (.inr ⟨e, m, rfl, ht, rfl⟩))
        · have hdi := dpP_mem hm
          rw [dpI] at hdi
          have hni := NP_mem hnp hm
          rw [NI] at hni
          have hei := exP_mem hnp hm
          rw [exI] at hei
          have hbn := exP_nn bb hni.2
          refine ⟨_, rfl, e, _, 0, _, rfl, rfl, ht, rfl, rfl, _, rfl, iteNS rfl ?_⟩
          refine ⟨_, rfl, e, _, 1, _, rfl, rfl, ht, rfl, m, 0, rfl, rfl, _, rfl, ite2 (fun hm0 => ?_) fun hm0 => ?_⟩
          · have hm1 : 0 < m := of_decide_eq_true hm0
            have hb1 : exP bb ≤ m * exP bb := by
              have := Int.mul_le_mul_of_nonneg_right (show (1 : Int) ≤ m by omega) hbn
              rw [Int.one_mul] at this
              exact this
            refine ⟨_, rfl, e, _, 2, _, rfl, rfl, ht, rfl, y', bb, rfl, hy, by omega, hni.2, by omega, fun D2 ys H3 s3 nD2 hD3 hY => ?_⟩
            have hYl : (ys.length : Int) = exP bb := by rw [hY.len, un_len hni.2]
            have hDD := s3 _ _ hD2
            have ht3 := same_t s3 ht
            have hne : D ≠ D2 := ne_of_none hD2 nD2
            cases ys with
            | nil =>
              refine ⟨_, rfl, _, .inl ⟨_, SqL.of hD3, rfl⟩, iteF ?_⟩
              refine ⟨zs, _, _, rfl, s2.trans s3, hDD, ?_⟩
              have e0 : unP bb = [] := List.length_eq_zero_iff.mp (hY.len).symm
              rw [hsn, unI, e0, show (List.replicate m.toNat ([] : List Ins)).flatten = [] by simp, List.append_nil]
              exact hZ.tp (Same.tp s3)
            | cons y0 ys =>
              refine ⟨_, rfl, _, .inl ⟨_, SqL.of hD3, rfl⟩, iteT ?_⟩
              have hmx : m ≤ 10000 := by
                have h1 : (1 : Int) ≤ exP bb := by rw [← hYl, List.length_cons]; omega
                have := Int.mul_le_mul_of_nonneg_left h1 (show (0 : Int) ≤ m by omega)
                rw [Int.mul_one] at this
                omega
              have hsz : (y0 :: ys).length * m.toNat ≤ 10000 := by
                have h1 : (((y0 :: ys).length * m.toNat : Nat) : Int) = exP bb * m := by
                  rw [Int.natCast_mul, hYl, Int.toNat_of_nonneg (by omega)]
                rw [Int.mul_comm] at h1
                omega
              refine ⟨_, rfl, .inl ⟨rfl, _, SqL.of hDD⟩, _, rfl, _, rfl, e, _, 1, _, rfl, rfl, ht3, rfl, D2, m, _, rfl, rfl, hD3, by omega, by omega, sl_of (Nat.le_trans hsz (by decide)), fun r nr => ?_⟩
              have s4 := same_new nr (o := HO.lst (List.replicate m.toNat (y0 :: ys)).flatten)
              have hD4 := s4 _ _ hDD
              refine ⟨D, r, zs, _, rfl, rfl, hD4, upd_same, sl_of (by rw [flat_len]; omega), ?_⟩
              have t5 : Tp (upd H3 r (HO.lst (List.replicate m.toNat (y0 :: ys)).flatten)) (upd (upd H3 r (HO.lst (List.replicate m.toNat (y0 :: ys)).flatten)) D (.lst (zs ++ (List.replicate m.toNat (y0 :: ys)).flatten))) := tp_lst hD4
              refine ⟨_, _, _, rfl, same_mut (s2.trans (s3.trans s4)) nD, upd_same, ?_⟩
              rw [hsn, unI]
              exact FIs.app (hZ.tp ((Same.tp (s3.trans s4)).trans t5)) ((hY.repl m.toNat).tp ((Same.tp s4).trans t5))
          · have hm1 : m = 0 := by
              have : ¬ (0 < m) := fun z => hm0 (decide_eq_true z)
              omega
            refine ⟨zs, _, _, rfl, s2, hD2, ?_⟩
            rw [hsn, unI, hm1]
            show FIs K H2 zs (unP (b.take j) ++ [])
            rw [List.append_nil]
            exact hZ
      · rintro σ H2 ⟨zs, y, z, rfl, s2, hD2, hZ⟩
        rw [hI.len, List.take_length] at hZ
        exact ⟨_, rfl, q D zs H2 s2 nD hD2 hZ⟩
    · refine ⟨_, (pss_cons (ps_set (i := 1) nd rfl (.inl rfl) (pe_lst pa_nil))
    (pss_cons (ps_for PassesOwn.never rfl (pi_tup (pv 0)) (pg_name (i := 2) nd rfl (.inl rfl))
      (pss_one (ps_if (pt_cmpR op_ne (pe_ix ix_tup (pv 2) pe_int (fun _ _ => rfl)) pe_str (nomark _))
      (pss_one (ps_expr (pe_bm PySem.F.plainAttrs_list PySem.F.slot_list_append PySem.F.type_list_append mt_append (pv 1) (pa_cons (pv 2) pa_nil))))
      (pss_one (ps_if (pt_cmpR op_gt (pe_ix ix_tup (pv 2) pe_int (fun _ _ => rfl)) pe_int (nomark _))
      (pss_cons (ps_set (i := 3) nd rfl (.inl rfl) (pe_c C_unrolled hr (by omega) (by rfl) (pa_cons (pe_ix ix_tup (pv 2) pe_int (fun _ _ => rfl)) pa_nil)))
    (pss_one (ps_if (pt_truth (pv 3) (by intro _; rfl))
      (pss_one (ps_expr (pe_bm PySem.F.plainAttrs_list PySem.F.slot_list_extend PySem.F.type_list_extend mt_extend (pv 1) (pa_cons (pe_op op_rep (pv 3) (pe_ix ix_tup (pv 2) pe_int (fun _ _ => rfl))) pa_nil))))
      pss_nil)))
      pss_nil)))))
    (pss_one (ps_ret (pv 1))))), ?_⟩
      refine ⟨Nat.zero_le _, fun D nD => ?_⟩
      have s1 := same_new nD (o := HO.lst [])
      refine ⟨_, rfl, a, rfl, ⟨_, same_t s1 hs⟩, for_tup (K := K) (a := a) (xs := xs) (fun j σ H2 => ∃ (zs : List V) (y z : Option V), σ = [some (.ref a), some (.ref D), y, z] ∧ Same H H2 ∧ H2 D = some (.lst zs) ∧ FIs K H2 zs (unP (b.take j))) ⟨[], none, none, rfl, s1, upd_same, by rw [List.take_zero, show unP [] = [] by unfold unP; rfl]; exact .nil⟩ ?_ ?_ ?_⟩
      · rintro j σ H2 _ ⟨zs, y, z, _, s2, _⟩
        exact same_t s2 hs
      · rintro j x σ H2 hj ⟨zs, y, z, rfl, s2, hD2, hZ⟩
        obtain ⟨i, hi, hx0⟩ := hI.get hj
        have hx := hx0.same s2
        have hm := List.mem_of_getElem? hi
        have hsn := unP_snoc hi
        have hzl : (zs.length : Int) ≤ 10000 := by
          rw [hZ.len, un_len (NP_take j hnp)]
          exact Int.le_trans (exP_take b j hnp) hex
        rcases hx.inv with ⟨e, m, rfl, ht, rfl⟩ | ⟨e, m, rfl, ht, rfl⟩ | ⟨e, m, y', bb, rfl, ht, hy, rfl⟩
        · refine ⟨_, rfl, e, _, 0, _, rfl, rfl, ht, rfl, rfl, _, rfl, iteNN v_sr ?_⟩
          refine ⟨_, rfl, .inl ⟨rfl, _, SqL.of hD2⟩, _, rfl, D, zs, _, rfl, rfl, hD2, sl_lt (by omega), zs ++ [.ref e], _, _, rfl, same_mut s2 nD, upd_same, ?_⟩
          rw [hsn, unI]
          exact FIs.snoc (hZ.tp (tp_lst hD2)) (FI.tp (tp_lst hD2) (.inl ⟨e, m, rfl, ht, rfl⟩))
        · refine ⟨_, rfl, e, _, 0, _, rfl, rfl, ht, rfl, rfl, _, rfl, iteNN v_tr ?_⟩
          refine ⟨_, rfl, .inl ⟨rfl, _, SqL.of hD2⟩, _, rfl, D, zs, _, rfl, rfl, hD2, sl_lt (by omega), zs ++ [.ref e], _, _, rfl, same_mut s2 nD, upd_same, ?_⟩
          rw [hsn, unI]
          exact FIs.snoc (hZ.tp (tp_lst hD2)) (FI.tp (tp_lst hD2) (.inr ⟨e, m, rfl, ht, rfl⟩))
        · have hdi := dpP_mem hm
          rw [dpI] at hdi
          have hni := NP_mem hnp hm
          rw [NI] at hni
          have hei := exP_mem hnp hm
          rw [exI] at hei
          have hbn := exP_nn bb hni.2
          refine ⟨_, rfl, e, _, 0, _, rfl, rfl, ht, rfl, rfl, _, rfl, iteNS rfl ?_⟩
          refine ⟨_, rfl, e, _, 1, _, rfl, rfl, ht, rfl, m, 0, rfl, rfl, _, rfl, ite2 (fun hm0 => ?_) fun hm0 => ?_⟩
          · have hm1 : 0 < m := of_decide_eq_true hm0
            have hb1 : exP bb ≤ m * exP bb := by
              have := Int.mul_le_mul_of_nonneg_right (show (1 : Int) ≤ m by omega) hbn
              rw [Int.one_mul] at this
              exact this
            refine ⟨_, rfl, e, _, 2, _, rfl, rfl, ht, rfl, y', bb, rfl, hy, by omega, hni.2, by omega, fun D2 ys H3 s3 nD2 hD3 hY => ?_⟩
            have hYl : (ys.length : Int) = exP bb := by rw [hY.len, un_len hni.2]
            have hDD := s3 _ _ hD2
            have ht3 := same_t s3 ht
            have hne : D ≠ D2 := ne_of_none hD2 nD2
            cases ys with
            | nil =>
              refine ⟨_, rfl, _, .inl ⟨_, SqL.of hD3, rfl⟩, iteF ?_⟩
              refine ⟨zs, _, _, rfl, s2.trans s3, hDD, ?_⟩
              have e0 : unP bb = [] := List.length_eq_zero_iff.mp (hY.len).symm
              rw [hsn, unI, e0, show (List.replicate m.toNat ([] : List Ins)).flatten = [] by simp, List.append_nil]
              exact hZ.tp (Same.tp s3)
            | cons y0 ys =>
              refine ⟨_, rfl, _, .inl ⟨_, SqL.of hD3, rfl⟩, iteT ?_⟩
              have hmx : m ≤ 10000 := by
                have h1 : (1 : Int) ≤ exP bb := by rw [← hYl, List.length_cons]; omega
                have := Int.mul_le_mul_of_nonneg_left h1 (show (0 : Int) ≤ m by omega)
                rw [Int.mul_one] at this
                omega
              have hsz : (y0 :: ys).length * m.toNat ≤ 10000 := by
                have h1 : (((y0 :: ys).length * m.toNat : Nat) : Int) = exP bb * m := by
                  rw [Int.natCast_mul, hYl, Int.toNat_of_nonneg (by omega)]
                rw [Int.mul_comm] at h1
                omega
              refine ⟨_, rfl, .inl ⟨rfl, _, SqL.of hDD⟩, _, rfl, _, rfl, e, _, 1, _, rfl, rfl, ht3, rfl, D2, m, _, rfl, rfl, hD3, by omega, by omega, sl_of (Nat.le_trans hsz (by decide)), fun r nr => ?_⟩
              have s4 := same_new nr (o := HO.lst (List.replicate m.toNat (y0 :: ys)).flatten)
              have hD4 := s4 _ _ hDD
              refine ⟨D, r, zs, _, rfl, rfl, hD4, upd_same, sl_of (by rw [flat_len]; omega), ?_⟩
              have t5 : Tp (upd H3 r (HO.lst (List.replicate m.toNat (y0 :: ys)).flatten)) (upd (upd H3 r (HO.lst (List.replicate m.toNat (y0 :: ys)).flatten)) D (.lst (zs ++ (List.replicate m.toNat (y0 :: ys)).flatten))) := tp_lst hD4
              refine ⟨_, _, _, rfl, same_mut (s2.trans (s3.trans s4)) nD, upd_same, ?_⟩
              rw [hsn, unI]
              exact FIs.app (hZ.tp ((Same.tp (s3.trans s4)).trans t5)) ((hY.repl m.toNat).tp ((Same.tp s4).trans t5))
          · have hm1 : m = 0 := by
              have : ¬ (0 < m) := fun z => hm0 (decide_eq_true z)
              omega
            refine ⟨zs, _, _, rfl, s2, hD2, ?_⟩
            rw [hsn, unI, hm1]
            show FIs K H2 zs (unP (b.take j) ++ [])
            rw [List.append_nil]
            exact hZ
      · rintro σ H2 ⟨zs, y, z, rfl, s2, hD2, hZ⟩
        rw [hI.len, List.take_length] at hZ
        exact ⟨_, rfl, q D zs H2 s2 nD hD2 hZ⟩
theorem sc_effect_of : FnScope ["prime", "program", "sums", "place", "word", "count"] ["prime", "program"] (defScope s_effect_of) := ⟨rfl, rfl, rfl, by decide +kernel, rfl, by decide +kernel, by decide +kernel⟩
theorem ok_effect_of {f : Addr} {fd : FuncData} (F : Fun K "effect_of" "effect_of" s_effect_of f fd) (B : Blt mg) {C : Addr} (Z : LimF P w K mg base C) {tl : Tok} (G_LONGEST_RUN : mg "LONGEST_RUN" = some (.int 10000 tl)) (C_from_sums : Cal P w K mg base 1 "from_sums" (sp_from_sums K)) (C_executed : Cal P w K mg base (3 + 0) "executed" (sp_executed K 3)) (C_unrolled : Cal P w K mg base (3 + 0) "unrolled" (sp_unrolled K 3)) : FnOk P w K mg base (L2.CX P w) 4 f fd ["prime", "program"] (sp_effect_ofX K C) := by
  refine F.okX sc_effect_of (fun vs H Q E h => ?_) (fun cdv A outer s H vs Q E hr h => ?_)
  · obtain ⟨p, v, b, rfl, _⟩ := h
    rfl
  · obtain ⟨p, v, b, rfl, hp, hv, hd, hw, hl, hnp, q, qx⟩ := h
    have hu := hu_of hr
    have nd := sc_effect_of.nd
    have tk := takes_of (X := cxOf (L2.CX P w) P w K mg base ["prime", "program", "sums", "place", "word", "count"] "effect_of" (defScope s_effect_of) f cdv A outer s H E) rfl rfl rfl rfl
    refine ⟨_, (pss_cons (ps_if (pt_cmpR op_gt (pe_c C_executed hr (by decide) (by rfl) (pa_cons (pv 1) pa_nil)) (pe_glob (v := .int 10000) rfl G_LONGEST_RUN ⟨_, rfl⟩) (nomark _))
      (pss_one (ps_raiseF Z rfl tk hr (by decide) (by rfl) (pa_cons (pe_glob (v := .int 10000) rfl G_LONGEST_RUN ⟨_, rfl⟩) pa_nil)))
      pss_nil)
    (pss_cons (ps_set (i := 2) nd rfl (.inl rfl) pe_dnewK)
    (pss_cons (ps_set (i := 3) nd rfl (.inl rfl) pe_int)
    (pss_cons (ps_for (passes_of rfl) rfl (pi_list (pe_c C_unrolled hr (by decide) (by rfl) (pa_cons (pv 1) pa_nil))) (pg_tup rfl (pgs_cons (pg_name (i := 4) nd rfl (.inl rfl)) (pgs_cons (pg_name (i := 5) nd rfl (.inl rfl)) pgs_nil)))
      (pss_one (ps_if (pt_cmpR op_eq (pv 4) pe_str (nomark _))
      (pss_one (ps_aug (i := 3) nd rfl (.inl rfl) (pv 5) ip_add))
      (pss_one (ps_dput hu (pv 2) (pv 3) (pe_op op_add (pe_dget2 hu (pv 2) (pv 3) pe_int ⟨rfl, rfl, rfl, rfl⟩) (pv 5)) rfl)))))
    (pss_one (ps_ret (pe_tup (pa_cons (pe_c C_from_sums hr (by decide) (by rfl) (pa_cons (pv 0) (pa_cons (pv 2) pa_nil))) (pa_cons (pv 3) pa_nil))))))))), ?_⟩
    refine ⟨_, rfl, v, b, rfl, hv, hd, by decide, hw, hl, exP b, 10000, rfl, rfl, _, rfl, ite2 (fun big => ?_) fun few => ?_⟩
    · exact ⟨_, rfl, qx (of_decide_eq_true big)⟩
    have hex : exP b ≤ 10000 := Int.not_lt.mp fun z => few (decide_eq_true z)
    have q := q hex
    intro d nd0
    have s1 : Same H (upd H d (.dK [])) := same_new nd0
    refine ⟨_, rfl, v, b, rfl, hv.same s1, hd, hnp, hex, fun D ys H2 s2 nD hD2 hY => ?_⟩
    have hYl : (ys.length : Int) ≤ 10000 := by rw [hY.len, un_len hnp]; exact hex
    have hd2 := s2 _ _ (show upd H d (.dK (kvOf [])) d = _ from upd_same)
    have s12 := s1.trans s2
    have ndH : ∀ {H3 : Hp}, Same H2 H3 → H d = none := fun _ => nd0
    refine ⟨D, rfl, ⟨_, SqL.of hD2⟩, for_list (K := K) (a := D) (xs := ys) (fun j σ H3 => ∃ (m : Pol) (y z : Option V), σ = [some (.int p), some v, some (.ref d), some (.int (shP ((unP b).take j))), y, z] ∧ Same H H3 ∧ H3 D = some (.lst ys) ∧ FIs K H3 ys (unP b) ∧ H3 d = some (.dK (kvOf m)) ∧ (m.map (·.1)).Nodup ∧ m.length ≤ j ∧ ∀ x, cf m x = seP ((unP b).take j) x) ?_ ?_ ?_ ?_⟩
    · exact ⟨[], none, none, by rw [List.take_zero, shP_nil]; rfl, s12, hD2, hY, hd2, List.nodup_nil, Nat.le_refl _, fun x => by rw [List.take_zero, seP_nil]; rfl⟩
    · rintro j σ H3 _ ⟨m, y, z, _, _, hD3, _⟩
      exact SqL.of hD3
    · rintro j x σ H3 hj ⟨m, y, z, rfl, s3, hD3, hY3, hd3, hnd, hml, hcf⟩
      obtain ⟨i, hi, hx⟩ : ∃ i, (unP b)[j]? = some i ∧ FI K H3 x i := by
        have : ∀ {ys : List V} {u : List Ins} {j : Nat} {x : V}, FIs K H3 ys u → ys[j]? = some x → ∃ i, u[j]? = some i ∧ FI K H3 x i := by
          intro ys u j x h
          induction h generalizing j with
          | nil => intro e; simp at e
          | cons r q ih =>
            cases j with
            | zero => intro e; simp at e; subst e; exact ⟨_, rfl, r⟩
            | succ j => intro e; obtain ⟨i, a1, a2⟩ := ih (j := j) (by simpa using e); exact ⟨i, by simpa using a1, a2⟩
        exact this hY3 hj
      have hjl : j < ys.length := (List.getElem?_eq_some_iff.mp hj).1
      have nDd : D ≠ d := ne_of hD3 hd3 (by intro z; cases z)
      rcases hx with ⟨e, c, rfl, ht, rfl⟩ | ⟨e, c, rfl, ht, rfl⟩
      · refine ⟨e, _, rfl, ht, rfl, _, _, rfl, _, _, rfl, rfl, ?_⟩
        refine ⟨_, rfl, rfl, _, rfl, iteS rfl ?_⟩
        refine ⟨_, rfl, _, rfl, _, _, rfl, rfl, m, some (.str "step"), some (.int c), ?_, s3, hD3, hY3, hd3, hnd, by omega, fun x => ?_⟩
        · rw [shP_snoc hi, shI]
          rfl
        · rw [seP_snoc hi, seI, Int.add_zero]
          exact hcf x
      · refine ⟨e, _, rfl, ht, rfl, _, _, rfl, _, _, rfl, rfl, ?_⟩
        refine ⟨_, rfl, rfl, _, rfl, iteN v_ts ?_⟩
        have pl := shP ((unP b).take j)
        refine ⟨_, rfl, d, rfl, .inl ⟨_, .inl hd3⟩, _, rfl, _, dget_any _ hd3, _, rfl, cf m _, c, kv_getD m _ hnd, rfl, _, rfl, _, rfl, d, _, rfl, dput_int _ _ hd3 hnd (by omega), ?_⟩
        refine ⟨put m (shP ((unP b).take j)) (cf m (shP ((unP b).take j)) + c), some (.str "turn"), some (.int c), ?_, same_mut s3 nd0, by rw [upd_ne nDd]; exact hD3, hY3.tp (tp_dK hd3), upd_same, put_nodup _ _ _ hnd, ?_, fun x => ?_⟩
        · rw [shP_snoc hi, shI, Int.add_zero]
          rfl
        · have := put_len m (shP ((unP b).take j)) (cf m (shP ((unP b).take j)) + c)
          omega
        · rw [put_cf _ _ _ _ hnd, seP_snoc hi, seI]
          by_cases hx : x = shP ((unP b).take j)
          · rw [if_pos hx, if_pos (by omega), hx, hcf]
          · rw [if_neg hx, if_neg (by omega), Int.add_zero, hcf]
    · rintro σ H3 ⟨m, y, z, rfl, s3, hD3, hY3, hd3, hnd, hml, hcf⟩
      rw [hY3.len, List.take_length] at *
      obtain ⟨u1, u2, u3⟩ := unP_ok b hnp
      refine ⟨_, rfl, _, rfl, p, d, m, rfl, hp, hd3, hnd, by have := hY3.len; omega, fun u H4 g s4 hT hN => ?_⟩
      refine ⟨_, rfl, sl_of (show 2 ≤ 1000000 by decide), fun t nt => ?_⟩
      rw [u1]
      refine q _ _ g (s3.trans (s4.trans (same_new nt))) ⟨t, u, rfl, SqT.of upd_same, hT.tp (tp_new nt)⟩ (hN.to fun e => ?_) ?_
      · rw [hcf, u3]
      · have := hN.len (L := m.map (·.1)) fun e he => by rw [cf_out he]; rfl
        rw [List.length_map] at this
        have := hY3.len
        omega
theorem sc__law_pen : FnScope ["_law_script"] ["_law_script"] (defScope s__law_pen) := ⟨rfl, rfl, rfl, by decide +kernel, rfl, by decide +kernel, by decide +kernel⟩
theorem ok__law_pen {f : Addr} {fd : FuncData} (F : Fun K "_law_pen" "_law_pen" s__law_pen f fd) (B : Blt mg) : FnOk P w K mg base CX0 1 f fd ["_law_script"] (sp__law_pen K) := by
  refine F.ok sc__law_pen (fun vs H Q E h => ?_) (fun cdv A outer s H vs Q E hr h => ?_)
  · obtain ⟨a, ns, rfl, _⟩ := h
    rfl
  · obtain ⟨a, ns, rfl, hS, k⟩ := h
    have nd := sc__law_pen.nd
    refine ⟨_, (pss_one (ps_ret (pe_disp (pps_cons pe_str (pe_callTy call_list_of (by rfl) B.list (by decide +kernel) (pa_cons (pe_slice sl_list (pv 0) po_none (po_some pe_int)) pa_nil)) (pps_cons pe_str pe_int (pps_cons pe_str pe_int pps_nil))) (by rfl) (by rfl) (fun z => by cases z) (by decide)))), ?_⟩
    intro p np
    have s1 : Same H (upd H p (.dK [])) := same_new np
    refine ⟨_, rfl, 63, rfl, a, _, rfl, s1.seq hS, fun q nq => ?_⟩
    have nqp : p ≠ q := ne_of_none upd_same nq
    refine ⟨q, _, rfl, .inl (SqL.of upd_same), fun c nc => ?_⟩
    have npc : p ≠ c := ne_of_none (show upd (upd H p (.dK [])) q _ p = some (.dK []) by rw [upd_ne nqp, upd_same]) nc
    have s2 : Same H (upd (upd H p (.dK [])) q (.lst (cutV (ns.map V.int) none (some 63)))) := s1.trans (same_new nq)
    refine ⟨?_, penKv c 0 0, rfl, by show 3 ≤ 15; decide, ?_⟩
    · rw [upd_ne npc, upd_ne nqp, upd_same]
    · rw [pen_merge]
      obtain ⟨ms, hms⟩ : ∃ ms : List Int, cutV (ns.map V.int) none (some 63) = ms.map V.int := by
        unfold cutV
        rw [← List.map_drop, ← List.map_take]
        exact ⟨_, rfl⟩
      refine k p c _ np (same_mut (s2.trans (same_new nc)) np) ⟨ms, 0, 0, upd_same, ?_, by omega, by omega⟩
      rw [upd_ne npc.symm, upd_same, hms]
theorem sc__law_draw : FnScope ["_law_pen_here", "_law_many", "_law_digit", "_law_used", "_law_cell", "_law_blend"] ["_law_pen_here", "_law_many"] (defScope s__law_draw) := ⟨rfl, rfl, rfl, by decide +kernel, rfl, by decide +kernel, by decide +kernel⟩
theorem ints_shaped (ns : List Int) : SeqAt.shaped (.list (ns.map PyData.int)) = true := by
  have : PyData.canLayAll0 (ns.map PyData.int) = true ∧ PyData.depthAll (ns.map PyData.int) = 0 := by
    induction ns with
    | nil => exact ⟨rfl, rfl⟩
    | cons n r ih =>
      refine ⟨?_, ?_⟩
      · show (true && PyData.canLayAll0 (r.map PyData.int)) = true
        rw [ih.1]
        rfl
      · show max 0 (PyData.depthAll (r.map PyData.int)) = 0
        rw [ih.2]
        rfl
  show (PyData.canLayAll0 (ns.map PyData.int) && decide (PyData.depthAll (ns.map PyData.int) + 1 ≤ 64)) = true
  rw [this.1, this.2]
  rfl
theorem ints_dpAll {H : Hp} : ∀ ns : List Int, DpAll K H (ns.map V.int) (ns.map PyData.int)
  | [] => .nil
  | n :: r => .cons (.int n) (ints_dpAll r)
theorem dg_left {H : Hp} {p c : Addr} {u l : Int} (h : H p = some (.dK (penKv c u l))) : DGet H p (.str "left") (some (.int l)) := by
  have := DGet.k (k := (Sum.inr ("left" : Str) : Key)) h
  rw [pen_left] at this
  exact this
theorem dg_used {H : Hp} {p c : Addr} {u l : Int} (h : H p = some (.dK (penKv c u l))) : DGet H p (.str "used") (some (.int u)) := by
  have := DGet.k (k := (Sum.inr ("used" : Str) : Key)) h
  rw [pen_used] at this
  exact this
theorem dg_cells {H : Hp} {p c : Addr} {u l : Int} (h : H p = some (.dK (penKv c u l))) : DGet H p (.str "cells") (some (.ref c)) := by
  have := DGet.k (k := (Sum.inr ("cells" : Str) : Key)) h
  rw [pen_cells] at this
  exact this
theorem dp_left {H : Hp} {p c : Addr} {u l : Int} (x : Int) (h : H p = some (.dK (penKv c u l))) : DPut H p (.str "left") (.int x) (upd H p (.dK (penKv c u x))) := by
  have := DPut.k (k := (Sum.inr ("left" : Str) : Key)) (v := .int x) h (sl_lt (show 3 ≤ 1000000 by decide))
  rw [pen_setL] at this
  exact this
theorem dp_used {H : Hp} {p c : Addr} {u l : Int} (x : Int) (h : H p = some (.dK (penKv c u l))) : DPut H p (.str "used") (.int x) (upd H p (.dK (penKv c x l))) := by
  have := DPut.k (k := (Sum.inr ("used" : Str) : Key)) (v := .int x) h (sl_lt (show 3 ≤ 1000000 by decide))
  rw [pen_setU] at this
  exact this
theorem atI_mod {ns : List Int} (u : Int) (h : 0 < ns.length) : ∃ z, atI (ns.map V.int) (u % ((ns.map V.int).length : Int)) = some (.int z) := by
  rw [List.length_map]
  have h1 := Int.emod_nonneg u (show (ns.length : Int) ≠ 0 by omega)
  have h2 := Int.emod_lt_of_pos u (show (0 : Int) < (ns.length : Int) by omega)
  obtain ⟨j, hj⟩ : ∃ j : Nat, u % (ns.length : Int) = (j : Int) := ⟨(u % (ns.length : Int)).toNat, by omega⟩
  rw [hj]
  have hlt : j < ns.length := by omega
  refine ⟨ns[j], atI_nat ?_⟩
  rw [List.getElem?_map, List.getElem?_eq_getElem hlt]
  rfl
theorem cm_197 (x j : Int) : CMul (x % 4294967197) j := .inl ⟨by have := Int.emod_nonneg x (show (4294967197 : Int) ≠ 0 by decide); omega, by have := Int.emod_lt_of_pos x (show (0 : Int) < 4294967197 by decide); omega⟩
theorem cm_189 (x j : Int) : CMul (x % 4294967189) j := .inl ⟨by have := Int.emod_nonneg x (show (4294967189 : Int) ≠ 0 by decide); omega, by have := Int.emod_lt_of_pos x (show (0 : Int) < 4294967189 by decide); omega⟩
theorem ok__law_draw {f : Addr} {fd : FuncData} (F : Fun K "_law_draw" "_law_draw" s__law_draw f fd) (B : Blt mg) : FnOk P w K mg base CX0 1 f fd ["_law_pen_here", "_law_many"] sp__law_draw := by
  refine F.ok sc__law_draw (fun vs H Q E h => ?_) (fun cdv A outer s H vs Q E hr h => ?_)
  · obtain ⟨p, c, many, n, rfl, _⟩ := h
    rfl
  · obtain ⟨p, c, many, n, rfl, hm, hm2, ⟨ns, u, l, h1, h2, hu0, hun⟩, hn, k⟩ := h
    have hu := hu_of hr
    have hu2 := hr.units
    have nd := sc__law_draw.nd
    have npc : p ≠ c := ne_of h1 h2 (by intro z; cases z)
    refine ⟨_, (pss_cons (ps_if (pt_cmpR op_gt (pe_dget hu (pv 0) pe_str (fun _ _ => rfl)) pe_int (nomark _))
      (pss_cons (ps_set (i := 2) nd rfl (.inl rfl) (pe_op op_mod (pe_dget hu (pv 0) pe_str (fun _ _ => rfl)) (pv 1)))
    (pss_cons (ps_dput hu (pv 0) pe_str (pe_op op_fdivW (pe_dget hu (pv 0) pe_str (fun _ _ => rfl)) (pv 1)) rfl)
    (pss_one (ps_ret (pv 2)))))
      pss_nil)
    (pss_cons (ps_set (i := 3) nd rfl (.inl rfl) (pe_dget hu (pv 0) pe_str (fun _ _ => rfl)))
    (pss_cons (ps_dput hu (pv 0) pe_str (pe_op op_add (pv 3) pe_int) rfl)
    (pss_cons (ps_set (i := 4) nd rfl (.inl rfl) (pe_op op_add (pe_op op_mul pe_int (pv 3)) pe_int))
    (pss_cons (ps_if (pt_cmpR (op_neD hu2) (pe_dget hu (pv 0) pe_str (fun _ _ => rfl)) (pe_lst pa_nil) (nomark _))
      (pss_one (ps_set (i := 4) nd rfl (.inl rfl) (pe_ix ix_list (pe_dget hu (pv 0) pe_str (fun _ _ => rfl)) (pe_op op_mod (pv 3) (pe_callB call_len_seq (by rfl) B.len (by decide +kernel) (pa_cons (pe_dget hu (pv 0) pe_str (fun _ _ => rfl)) pa_nil))) (fun _ _ => rfl))))
      pss_nil)
    (pss_cons (ps_if (PW.pt (pw_and (pt_cmpR op_lt (pv 3) (pe_callB call_len_seq (by rfl) B.len (by decide +kernel) (pa_cons (pe_dget hu (pv 0) pe_str (fun _ _ => rfl)) pa_nil)) (nomark _)) (pw_and1 (pt_cmpR op_ge (pe_callB call_abs (by rfl) B.abs (by decide +kernel) (pa_cons (pv 4) pa_nil)) (pe_op op_pow pe_int pe_int) (nomark _)))))
      (pss_cons (ps_dput hu (pv 0) pe_str (pe_op op_fdivW (pe_op op_sub (pe_callB call_abs (by rfl) B.abs (by decide +kernel) (pa_cons (pv 4) pa_nil)) (pe_op op_pow pe_int pe_int)) (pv 1)) rfl)
    (pss_one (ps_ret (pe_op op_mod (pe_op op_sub (pe_callB call_abs (by rfl) B.abs (by decide +kernel) (pa_cons (pv 4) pa_nil)) (pe_op op_pow pe_int pe_int)) (pv 1)))))
      pss_nil)
    (pss_cons (ps_set (i := 5) nd rfl (.inl rfl) (pe_op op_add (pe_op op_mul (pe_op op_mod (pv 4) pe_int) pe_int) (pe_op op_mul (pe_op op_mul pe_int (pv 3)) (pv 3))))
    (pss_cons (ps_set (i := 5) nd rfl (.inl rfl) (pe_op op_mod (pe_op op_add (pe_op op_add (pv 5) (pe_op op_mul pe_int (pv 3))) pe_int) pe_int))
    (pss_cons (ps_set (i := 5) nd rfl (.inl rfl) (pe_op op_mod (pe_op op_add (pe_op op_add (pe_op op_add (pe_op op_mul (pv 5) (pv 5)) (pe_op op_mul pe_int (pv 5))) (pe_op op_mul pe_int (pv 3))) pe_int) pe_int))
    (pss_one (ps_ret (pe_op op_mod (pe_op op_fdiv (pe_op op_mod (pe_op op_mul (pv 5) (pe_op op_add (pv 5) pe_int)) pe_int) pe_int) (pv 1))))))))))))), ?_⟩
    have wd : ∀ i : Int, CDivW i many := fun i => wide_div hm hm2 (by decide) (by decide)
    have rng : ∀ i : Int, 0 ≤ i % many ∧ i % many < many := fun i => ⟨Int.emod_nonneg i (by omega), Int.emod_lt_of_pos i hm⟩
    refine ⟨_, rfl, p, _, rfl, dg_left h1, _, _, rfl, rfl, _, rfl, ?_⟩
    refine ite2 (fun _ => ?_) (fun _ => ?_)
    · refine ⟨_, rfl, p, _, rfl, dg_left h1, _, rfl, l, many, rfl, rfl, hm, ?_⟩
      refine ⟨_, rfl, p, _, rfl, dg_left h1, _, rfl, l, many, rfl, rfl, wd _, _, rfl, p, _, rfl, dp_left _ h1, _, rfl, ?_⟩
      exact k _ _ (rng l).1 (rng l).2 (Kp.refl p H).upd ⟨ns, u, _, upd_same, by rw [upd_ne npc.symm]; exact h2, hu0, by omega⟩
    · have g1 : upd H p (.dK (penKv c (u + 1) l)) p = some (.dK (penKv c (u + 1) l)) := upd_same
      have g2 : upd H p (.dK (penKv c (u + 1) l)) c = some (.lst (ns.map V.int)) := by
        rw [upd_ne npc.symm]
        exact h2
      refine ⟨_, rfl, p, _, rfl, dg_used h1, _, rfl, u, 1, rfl, rfl, _, rfl, p, _, rfl, dp_used (u + 1) h1, ?_⟩
      refine ⟨_, rfl, 29, u, rfl, rfl, .inl ⟨by decide, by decide⟩, _, 11, rfl, rfl, ?_⟩
      refine ⟨_, rfl, p, _, rfl, dg_cells g1, Nat.zero_le _, fun q nq => ?_⟩
      have e1 : upd (upd H p (.dK (penKv c (u + 1) l))) q (.lst []) p = some (.dK (penKv c (u + 1) l)) := by
        rw [upd_ne (ne_of_none g1 nq)]
        exact g1
      have e2 : upd (upd H p (.dK (penKv c (u + 1) l))) q (.lst []) c = some (.lst (ns.map V.int)) := by
        rw [upd_ne (ne_of_none g2 nq)]
        exact g2
      have kq : Kp p H (upd (upd H p (.dK (penKv c (u + 1) l))) q (.lst [])) := (Kp.refl p H).upd.trans (Same.kp (same_new nq))
      have e3 : upd (upd H p (.dK (penKv c (u + 1) l))) q (.lst []) q = some (.lst []) := upd_same
      generalize upd (upd H p (.dK (penKv c (u + 1) l))) q (.lst []) = H1 at e1 e2 e3 kq ⊢
      have hpos : (!PyData.eqv (.list (ns.map PyData.int)) (.list [])) = true → 0 < ns.length := by
        cases ns with
        | nil => exact fun z => absurd z (by decide)
        | cons _ _ => exact fun _ => Nat.succ_pos _
      refine ⟨.list (ns.map PyData.int), .list [], .lst (SqL.of e2) (ints_dpAll ns), .lst (SqL.of e3) .nil, ints_shaped ns, ints_shaped [], _, rfl, ?_⟩
      refine ite2 (fun z => ?_) (fun _ => ?_)
      · obtain ⟨v, hv⟩ := atI_mod u (hpos z)
        refine ⟨_, rfl, p, _, rfl, dg_cells e1, _, rfl, _, rfl, p, _, rfl, dg_cells e1, c, _, rfl, .inl (SqL.of e2), u, _, rfl, rfl, (by rw [List.length_map]; have := hpos z; omega), c, _, _, _, rfl, rfl, SqL.of e2, hv, ?_⟩
        generalize v = cell
        refine ⟨_, rfl, _, rfl, p, _, rfl, dg_cells e1, c, _, rfl, .inl (SqL.of e2), u, _, rfl, rfl, _, rfl, ?_⟩
        refine ite2 (fun _ => ?_) (fun _ => ?_)
        · refine ⟨_, rfl, cell, rfl, 10, 18, rfl, rfl, ⟨by decide, by decide, by decide⟩, _, _, rfl, rfl, _, rfl, ?_⟩
          refine ite2 (fun _ => ?_) (fun _ => ?_)
          · refine ⟨_, rfl, cell, rfl, 10, 18, rfl, rfl, ⟨by decide, by decide, by decide⟩, _, _, rfl, rfl, _, rfl, _, many, rfl, rfl, wd _, _, rfl, p, _, rfl, dp_left _ e1, ?_⟩
            refine ⟨_, rfl, cell, rfl, 10, 18, rfl, rfl, ⟨by decide, by decide, by decide⟩, _, _, rfl, rfl, _, rfl, _, many, rfl, rfl, hm, ?_⟩
            exact k _ _ (rng _).1 (rng _).2 kq.upd ⟨ns, u + 1, _, upd_same, by rw [upd_ne npc.symm]; exact e2, by omega, by omega⟩
          · refine ⟨_, rfl, cell, 4294967231, rfl, rfl, (show (0 : Int) < 4294967231 by decide), _, 1664525, rfl, rfl, .inr ⟨by decide, by decide⟩, _, rfl, 24593, u, rfl, rfl, .inl ⟨by decide, by decide⟩, _, rfl, 24593 * u, u, rfl, rfl, .inr ⟨by omega, by omega⟩, _, _, rfl, rfl, ?_⟩
            refine ⟨_, rfl, _, rfl, 196613, u, rfl, rfl, .inl ⟨by decide, by decide⟩, _, _, rfl, rfl, _, 19, rfl, rfl, _, _, rfl, rfl, (show (0 : Int) < 4294967197 by decide), ?_⟩
            refine ⟨_, rfl, _, rfl, _, _, rfl, rfl, cm_197 _ _, _, rfl, 12582917, _, rfl, rfl, .inl ⟨by decide, by decide⟩, _, _, rfl, rfl, _, rfl, 7, u, rfl, rfl, .inl ⟨by decide, by decide⟩, _, _, rfl, rfl, _, 3, rfl, rfl, _, _, rfl, rfl, (show (0 : Int) < 4294967189 by decide), ?_⟩
            refine ⟨_, rfl, _, rfl, _, 25165843, rfl, rfl, _, _, rfl, rfl, cm_189 _ _, _, _, rfl, rfl, (show (0 : Int) < 4294967291 by decide), _, 64, rfl, rfl, ⟨by decide, by decide⟩, _, rfl, _, many, rfl, rfl, hm, ?_⟩
            exact k _ _ (rng _).1 (rng _).2 kq ⟨ns, u + 1, _, e1, e2, by omega, by omega⟩
        · refine iteF ?_
          refine ⟨_, rfl, cell, 4294967231, rfl, rfl, (show (0 : Int) < 4294967231 by decide), _, 1664525, rfl, rfl, .inr ⟨by decide, by decide⟩, _, rfl, 24593, u, rfl, rfl, .inl ⟨by decide, by decide⟩, _, rfl, 24593 * u, u, rfl, rfl, .inr ⟨by omega, by omega⟩, _, _, rfl, rfl, ?_⟩
          refine ⟨_, rfl, _, rfl, 196613, u, rfl, rfl, .inl ⟨by decide, by decide⟩, _, _, rfl, rfl, _, 19, rfl, rfl, _, _, rfl, rfl, (show (0 : Int) < 4294967197 by decide), ?_⟩
          refine ⟨_, rfl, _, rfl, _, _, rfl, rfl, cm_197 _ _, _, rfl, 12582917, _, rfl, rfl, .inl ⟨by decide, by decide⟩, _, _, rfl, rfl, _, rfl, 7, u, rfl, rfl, .inl ⟨by decide, by decide⟩, _, _, rfl, rfl, _, 3, rfl, rfl, _, _, rfl, rfl, (show (0 : Int) < 4294967189 by decide), ?_⟩
          refine ⟨_, rfl, _, rfl, _, 25165843, rfl, rfl, _, _, rfl, rfl, cm_189 _ _, _, _, rfl, rfl, (show (0 : Int) < 4294967291 by decide), _, 64, rfl, rfl, ⟨by decide, by decide⟩, _, rfl, _, many, rfl, rfl, hm, ?_⟩
          exact k _ _ (rng _).1 (rng _).2 kq ⟨ns, u + 1, _, e1, e2, by omega, by omega⟩
      · refine ⟨_, rfl, _, rfl, p, _, rfl, dg_cells e1, c, _, rfl, .inl (SqL.of e2), u, _, rfl, rfl, _, rfl, ?_⟩
        refine ite2 (fun _ => ?_) (fun _ => ?_)
        · refine ⟨_, rfl, 29 * u + 11, rfl, 10, 18, rfl, rfl, ⟨by decide, by decide, by decide⟩, _, _, rfl, rfl, _, rfl, ?_⟩
          refine ite2 (fun _ => ?_) (fun _ => ?_)
          · refine ⟨_, rfl, 29 * u + 11, rfl, 10, 18, rfl, rfl, ⟨by decide, by decide, by decide⟩, _, _, rfl, rfl, _, rfl, _, many, rfl, rfl, wd _, _, rfl, p, _, rfl, dp_left _ e1, ?_⟩
            refine ⟨_, rfl, 29 * u + 11, rfl, 10, 18, rfl, rfl, ⟨by decide, by decide, by decide⟩, _, _, rfl, rfl, _, rfl, _, many, rfl, rfl, hm, ?_⟩
            exact k _ _ (rng _).1 (rng _).2 kq.upd ⟨ns, u + 1, _, upd_same, by rw [upd_ne npc.symm]; exact e2, by omega, by omega⟩
          · refine ⟨_, rfl, 29 * u + 11, 4294967231, rfl, rfl, (show (0 : Int) < 4294967231 by decide), _, 1664525, rfl, rfl, .inr ⟨by decide, by decide⟩, _, rfl, 24593, u, rfl, rfl, .inl ⟨by decide, by decide⟩, _, rfl, 24593 * u, u, rfl, rfl, .inr ⟨by omega, by omega⟩, _, _, rfl, rfl, ?_⟩
            refine ⟨_, rfl, _, rfl, 196613, u, rfl, rfl, .inl ⟨by decide, by decide⟩, _, _, rfl, rfl, _, 19, rfl, rfl, _, _, rfl, rfl, (show (0 : Int) < 4294967197 by decide), ?_⟩
            refine ⟨_, rfl, _, rfl, _, _, rfl, rfl, cm_197 _ _, _, rfl, 12582917, _, rfl, rfl, .inl ⟨by decide, by decide⟩, _, _, rfl, rfl, _, rfl, 7, u, rfl, rfl, .inl ⟨by decide, by decide⟩, _, _, rfl, rfl, _, 3, rfl, rfl, _, _, rfl, rfl, (show (0 : Int) < 4294967189 by decide), ?_⟩
            refine ⟨_, rfl, _, rfl, _, 25165843, rfl, rfl, _, _, rfl, rfl, cm_189 _ _, _, _, rfl, rfl, (show (0 : Int) < 4294967291 by decide), _, 64, rfl, rfl, ⟨by decide, by decide⟩, _, rfl, _, many, rfl, rfl, hm, ?_⟩
            exact k _ _ (rng _).1 (rng _).2 kq ⟨ns, u + 1, _, e1, e2, by omega, by omega⟩
        · refine iteF ?_
          refine ⟨_, rfl, 29 * u + 11, 4294967231, rfl, rfl, (show (0 : Int) < 4294967231 by decide), _, 1664525, rfl, rfl, .inr ⟨by decide, by decide⟩, _, rfl, 24593, u, rfl, rfl, .inl ⟨by decide, by decide⟩, _, rfl, 24593 * u, u, rfl, rfl, .inr ⟨by omega, by omega⟩, _, _, rfl, rfl, ?_⟩
          refine ⟨_, rfl, _, rfl, 196613, u, rfl, rfl, .inl ⟨by decide, by decide⟩, _, _, rfl, rfl, _, 19, rfl, rfl, _, _, rfl, rfl, (show (0 : Int) < 4294967197 by decide), ?_⟩
          refine ⟨_, rfl, _, rfl, _, _, rfl, rfl, cm_197 _ _, _, rfl, 12582917, _, rfl, rfl, .inl ⟨by decide, by decide⟩, _, _, rfl, rfl, _, rfl, 7, u, rfl, rfl, .inl ⟨by decide, by decide⟩, _, _, rfl, rfl, _, 3, rfl, rfl, _, _, rfl, rfl, (show (0 : Int) < 4294967189 by decide), ?_⟩
          refine ⟨_, rfl, _, rfl, _, 25165843, rfl, rfl, _, _, rfl, rfl, cm_189 _ _, _, _, rfl, rfl, (show (0 : Int) < 4294967291 by decide), _, 64, rfl, rfl, ⟨by decide, by decide⟩, _, rfl, _, many, rfl, rfl, hm, ?_⟩
          exact k _ _ (rng _).1 (rng _).2 kq ⟨ns, u + 1, _, e1, e2, by omega, by omega⟩
theorem sc__law_pick : FnScope ["_law_pen_here", "_law_options"] ["_law_pen_here", "_law_options"] (defScope s__law_pick) := ⟨rfl, rfl, rfl, by decide +kernel, rfl, by decide +kernel, by decide +kernel⟩
theorem ok__law_pick {f : Addr} {fd : FuncData} (F : Fun K "_law_pick" "_law_pick" s__law_pick f fd) (B : Blt mg) (C__law_draw : Cal P w K mg base 1 "_law_draw" sp__law_draw) : FnOk P w K mg base CX0 2 f fd ["_law_pen_here", "_law_options"] sp__law_pick := by
  refine F.ok sc__law_pick (fun vs H Q E h => ?_) (fun cdv A outer s H vs Q E hr h => ?_)
  · obtain ⟨p, c, o, n, xs, rfl, _⟩ := h
    rfl
  · obtain ⟨p, c, o, n, xs, rfl, pen, hn, ho, hx, hx2, k⟩ := h
    have nd := sc__law_pick.nd
    refine ⟨_, (pss_one (ps_ret (pe_ix ix_list (pv 1) (pe_c C__law_draw hr (by decide) (by rfl) (pa_cons (pv 0) (pa_cons (pe_callB call_len_seq (by rfl) B.len (by decide +kernel) (pa_cons (pv 1) pa_nil)) pa_nil))) (fun _ _ => rfl)))), ?_⟩
    have nop : o ≠ p := pen.dict.elim fun _ e => ne_of ho e (by intro z; cases z)
    refine ⟨_, rfl, _, rfl, _, rfl, o, xs, rfl, .inl (SqL.of ho), p, c, (xs.length : Int), n, rfl, by omega, ?_, pen, hn, fun r H1 h0 h9 kp pen1 => ?_⟩
    · exact Nat.lt_of_le_of_lt (show ((xs.length : Int)).natAbs ≤ 100000 by omega) (by decide)
    · obtain ⟨j, rfl⟩ : ∃ j : Nat, r = (j : Int) := ⟨r.toNat, by omega⟩
      have hj : j < xs.length := by omega
      refine ⟨o, xs, (j : Int), xs[j], rfl, rfl, SqL.of (kp _ _ nop ho), atI_nat (List.getElem?_eq_getElem hj), ?_⟩
      exact k _ _ (List.getElem_mem hj) kp pen1
theorem sc__law_prime : FnScope ["_law_pen_here", "_law_found", "_law_larger"] ["_law_pen_here"] (defScope s__law_prime) := ⟨rfl, rfl, rfl, by decide +kernel, rfl, by decide +kernel, by decide +kernel⟩
theorem pick_p1 : ∀ q ∈ ([2, 2, 3, 3, 5, 7, 2, 3, 5, 11, 13, 97] : List Int), q ∈ primes := by decide
theorem pick_p2 : ∀ q ∈ ([13, 17, 19, 23, 29, 31, 37, 41, 43, 47, 53, 59, 61, 67, 71, 73, 79, 83, 89] : List Int), q ∈ primes := by decide
theorem ok__law_prime {f : Addr} {fd : FuncData} (F : Fun K "_law_prime" "_law_prime" s__law_prime f fd) (B : Blt mg) (C__law_pick : Cal P w K mg base 2 "_law_pick" sp__law_pick) : FnOk P w K mg base CX0 3 f fd ["_law_pen_here"] sp__law_prime := by
  refine F.ok sc__law_prime (fun vs H Q E h => ?_) (fun cdv A outer s H vs Q E hr h => ?_)
  · obtain ⟨p, c, n, rfl, _⟩ := h
    rfl
  · obtain ⟨p, c, n, rfl, pen, hn, k⟩ := h
    have nd := sc__law_prime.nd
    refine ⟨_, (pss_cons (ps_set (i := 1) nd rfl (.inl rfl) (pe_c C__law_pick hr (by decide) (by rfl) (pa_cons (pv 0) (pa_cons (pe_lst (pa_cons pe_int (pa_cons pe_int (pa_cons pe_int (pa_cons pe_int (pa_cons pe_int (pa_cons pe_int (pa_cons pe_int (pa_cons pe_int (pa_cons pe_int (pa_cons pe_int (pa_cons pe_int (pa_cons pe_int pa_nil))))))))))))) pa_nil))))
    (pss_cons (ps_set (i := 2) nd rfl (.inl rfl) (pe_lst (pa_cons pe_int (pa_cons pe_int (pa_cons pe_int (pa_cons pe_int (pa_cons pe_int (pa_cons pe_int (pa_cons pe_int (pa_cons pe_int (pa_cons pe_int (pa_cons pe_int (pa_cons pe_int (pa_cons pe_int (pa_cons pe_int (pa_cons pe_int (pa_cons pe_int (pa_cons pe_int (pa_cons pe_int (pa_cons pe_int (pa_cons pe_int pa_nil)))))))))))))))))))))
    (pss_one (ps_ret (pe_ifExp (pt_cmpR op_eq (pv 1) pe_int (nomark _)) (pe_c C__law_pick hr (by decide) (by rfl) (pa_cons (pv 0) (pa_cons (pv 2) pa_nil))) (pv 1)))))), ?_⟩
    refine ⟨_, rfl, sl_of (show 12 ≤ 1000000 by decide), fun o no => ?_⟩
    refine ⟨p, c, o, n, ([2, 2, 3, 3, 5, 7, 2, 3, 5, 11, 13, 97] : List Int).map V.int, rfl, pen.same (same_new no), by omega, upd_same, by decide, by decide, fun v H1 hv kp pen1 => ?_⟩
    obtain ⟨q, hq, rfl⟩ := List.mem_map.mp hv
    refine ⟨sl_of (show 19 ≤ 1000000 by decide), fun o2 no2 => ?_⟩
    have kp2 : Kp p H (upd H1 o2 (.lst (([13, 17, 19, 23, 29, 31, 37, 41, 43, 47, 53, 59, 61, 67, 71, 73, 79, 83, 89] : List Int).map V.int))) := (Same.kp (same_new no)).trans (kp.trans (Same.kp (same_new no2)))
    refine ⟨_, rfl, rfl, _, rfl, ?_⟩
    refine ite2 (fun _ => ?_) (fun _ => ?_)
    · refine ⟨_, rfl, _, rfl, p, c, o2, n + 1, ([13, 17, 19, 23, 29, 31, 37, 41, 43, 47, 53, 59, 61, 67, 71, 73, 79, 83, 89] : List Int).map V.int, rfl, pen1.same (same_new no2), by omega, upd_same, by decide, by decide, fun v H2 hv2 kp3 pen2 => ?_⟩
      obtain ⟨q2, hq2, rfl⟩ := List.mem_map.mp hv2
      exact k _ _ (pick_p2 _ hq2) (kp2.trans kp3) pen2
    · exact ⟨_, rfl, k _ _ (pick_p1 _ hq) kp2 ((pen1.same (same_new no2)).mono (by omega))⟩
theorem sc__law_integer : FnScope ["_law_pen_here", "_law_most"] ["_law_pen_here", "_law_most"] (defScope s__law_integer) := ⟨rfl, rfl, rfl, by decide +kernel, rfl, by decide +kernel, by decide +kernel⟩
theorem ten90 {m : Int} (h0 : 0 ≤ m) (h : m.natAbs < 10 ^ 90) : (2 * m + 1).natAbs < 2 ^ 400 := by
  have e : (2 * m + 1).natAbs = 2 * m.natAbs + 1 := by omega
  have h2 : 2 * 10 ^ 90 + 1 < 2 ^ 400 := by decide +kernel
  rw [e]
  omega
theorem ok__law_integer {f : Addr} {fd : FuncData} (F : Fun K "_law_integer" "_law_integer" s__law_integer f fd) (B : Blt mg) (C__law_draw : Cal P w K mg base 1 "_law_draw" sp__law_draw) : FnOk P w K mg base CX0 2 f fd ["_law_pen_here", "_law_most"] sp__law_integer := by
  refine F.ok sc__law_integer (fun vs H Q E h => ?_) (fun cdv A outer s H vs Q E hr h => ?_)
  · obtain ⟨p, c, m, n, rfl, _⟩ := h
    rfl
  · obtain ⟨p, c, m, n, rfl, hm, hm2, pen, hn, k⟩ := h
    have nd := sc__law_integer.nd
    refine ⟨_, (pss_one (ps_ret (pe_op op_sub (pe_c C__law_draw hr (by decide) (by rfl) (pa_cons (pv 0) (pa_cons (pe_op op_add (pe_op op_mul pe_int (pv 1)) pe_int) pa_nil))) (pv 1)))), ?_⟩
    refine ⟨_, rfl, _, rfl, 2, m, rfl, rfl, .inl ⟨by decide, by decide⟩, _, 1, rfl, rfl, p, c, 2 * m + 1, n, rfl, by omega, ten90 hm hm2, pen, hn, fun r H1 h0 h9 kp pen1 => ?_⟩
    exact ⟨_, rfl, r, m, rfl, rfl, k _ _ (by omega) kp pen1⟩
theorem sc__law_normal : FnScope ["_law_prime_here", "_law_pairs", "_law_terms_here", "_law_exponent", "_law_coefficient", "_law_kept"] ["_law_prime_here", "_law_pairs"] (defScope s__law_normal) := ⟨rfl, rfl, rfl, by decide +kernel, rfl, by decide +kernel, by decide +kernel⟩
theorem ok__law_normal {f : Addr} {fd : FuncData} (F : Fun K "_law_normal" "_law_normal" s__law_normal f fd) (B : Blt mg) : FnOk P w K mg base CX0 1 f fd ["_law_prime_here", "_law_pairs"] (sp_normalize K) := by
  refine F.ok sc__law_normal (fun vs H Q E h => ?_) (fun cdv A outer s H vs Q E hr h => ?_)
  · obtain ⟨p, v, ps, rfl, _⟩ := h
    rfl
  · obtain ⟨p, v, ps, rfl, hp, hv, hl, k⟩ := h
    have hu := hu_of hr
    have nd := sc__law_normal.nd
    rcases hv with ⟨a, xs, rfl, hs, hP⟩ | ⟨a, xs, rfl, hs, hP⟩
    · refine ⟨_, (pss_cons (ps_set (i := 2) nd rfl (.inr rfl) pe_dnewK)
        (pss_cons (ps_for PassesOwn.never rfl (pi_tup (pv 1)) (pg_tup rfl (pgs_cons (pg_name (i := 3) nd rfl (.inl rfl)) (pgs_cons (pg_name (i := 4) nd rfl (.inl rfl)) pgs_nil)))
          (pss_one (ps_dput hu (pv 2) (pv 3) (pe_op op_mod (pe_op op_add (pe_dget2 hu (pv 2) (pv 3) pe_int ⟨rfl, rfl, rfl, rfl⟩) (pv 4)) (pv 0)) rfl)))
        (pss_cons (ps_setLc (i := 5) (own := [("_law_exponent", 3)]) (by rfl) nd rfl rfl (sw_true rfl rfl rfl (by decide +kernel)) (pi_list (pe_callB (call_sortedDA rfl) (by rfl) B.sorted (by decide +kernel) (pa_cons (pv 2) pa_nil))) (blkOk_by (N := ["_law_prime_here", "_law_pairs", "_law_terms_here", "_law_exponent", "_law_coefficient", "_law_kept"]) (sc := defScope s__law_normal) (own := [("_law_exponent", 3)]) (by decide +kernel)) (fun _ _ _ _ _ => (pg_name (i := 3) nd rfl (.inl rfl))) (fun _ _ _ _ _ => (pts_one (pt_cmpR op_ne (pe_dget hu (pv 2) (pv 3) (fun _ _ => rfl)) pe_int (nomark _)))) (fun _ _ _ _ _ => (pv 3)))
        (pss_one (ps_ret (pe_callTy call_tuple_of (by rfl) B.tuple (by decide +kernel) (pa_cons (pe_lc (own := [("_law_exponent", 3)]) (by rfl) nd (pi_list (pv 5)) (blkOk_by (N := ["_law_prime_here", "_law_pairs", "_law_terms_here", "_law_exponent", "_law_coefficient", "_law_kept"]) (sc := defScope s__law_normal) (own := [("_law_exponent", 3)]) (by decide +kernel)) (fun _ _ _ _ _ => (pg_name (i := 3) nd rfl (.inl rfl))) (fun _ _ _ _ _ => pts_nil) (fun _ _ _ _ _ => (pe_tup (pa_cons (pv 3) (pa_cons (pe_dget hu (pv 2) (pv 3) (fun _ _ => rfl)) pa_nil))))) pa_nil))))))), ?_⟩
      intro d nd0
      have s1 : Same H (upd H d (.dK [])) := same_new nd0
      refine ⟨_, rfl, a, rfl, ⟨_, same_t s1 hs⟩, for_tup (K := K) (a := a) (xs := xs) (fun i σ H2 => ∃ (m : Pol) (y z : Option V), σ = [some (.int p), some (.ref a), some (.ref d), y, z, none] ∧ Same H H2 ∧ H2 d = some (.dK (kvOf m)) ∧ (m.map (·.1)).Nodup ∧ m.length ≤ i ∧ ∀ e, cf m e = cf (ps.take i) e % p) ?_ ?_ ?_ ?_⟩
      · exact ⟨[], none, none, rfl, s1, upd_same, List.nodup_nil, Nat.le_refl _, fun _ => rfl⟩
      · rintro i σ H2 _ ⟨m, y, z, _, s2, _⟩
        exact same_t s2 hs
      · rintro i x σ H2 hi ⟨m, y, z, rfl, s2, hd, hn, hm, hc⟩
        obtain ⟨t, ht, b, rfl, hb⟩ := hP.get hi
        have hlt : i < ps.length := (List.getElem?_eq_some_iff.mp ht).1
        refine ⟨b, _, rfl, same_t s2 hb, rfl, _, _, rfl, _, _, rfl, rfl, ?_⟩
        refine ⟨_, rfl, d, rfl, .inl ⟨_, .inl hd⟩, _, rfl, _, dget_any t.1 hd, _, rfl, cf m t.1, t.2, kv_getD m t.1 hn, rfl, _, rfl, _, p, rfl, rfl, hp, _, rfl, _, rfl, d, _, rfl, dput_int t.1 ((cf m t.1 + t.2) % p) hd hn (by omega), ?_⟩
        refine ⟨put m t.1 ((cf m t.1 + t.2) % p), _, _, rfl, same_mut s2 nd0, upd_same, put_nodup _ _ _ hn, ?_, fun e => ?_⟩
        · have := put_len m t.1 ((cf m t.1 + t.2) % p)
          omega
        · rw [put_cf _ _ _ _ hn, take_snoc ht, cf_append, cf_cons, cf_nil]
          by_cases q : e = t.1
          · rw [if_pos q, if_pos q.symm, hc, q, Int.add_zero, Int.emod_add_emod]
          · rw [if_neg q, if_neg (fun z => q z.symm), hc, Int.zero_add, Int.add_zero]
      · rintro σ H2 ⟨m, y, z, rfl, s2, hd, hn, hm, hc⟩
        have hlen := hP.len
        rw [hlen, List.take_length] at hc
        have hml : m.length ≤ 1000000 := by omega
        refine ⟨_, rfl, d, kvOf m, m.map (·.1), rfl, .inl hd, kv_keys m, fun ys b perm srt nb => ?_⟩
        have hyl : ys.length ≤ 1000000 := by
          rw [perm.length_eq, List.length_map]
          exact hml
        have sb : Same H2 (upd H2 b (.lst (ys.map V.int))) := same_new nb
        have hk : ∀ e ∈ ys, e ∈ m.map (·.1) := fun e he => perm.mem_iff.mp he
        refine ⟨b, rfl, ⟨_, SqL.of upd_same⟩, fun D nD => ?_⟩
        refine lc_list (K := K) (a := b) (xs := ys.map V.int) (fun i H3 => Same (upd H2 b (.lst (ys.map V.int))) H3 ∧ H3 D = some (.lst (((ys.take i).filter fun e => decide (cf m e ≠ 0)).map V.int))) ⟨same_new nD, upd_same⟩ (fun i H3 _ h => SqL.of (h.1 _ _ upd_same)) ?_ ?_
        · rintro i x H3 hi ⟨s3, h3⟩
          obtain ⟨e, he, rfl⟩ := ints_get hi
          have hd3 := s3 _ _ (sb _ _ hd)
          refine ⟨rfl, _, rfl, _, rfl, d, _, rfl, dget_int hd3 hn (hk e (List.mem_of_getElem? he)), rfl, _, rfl, ?_⟩
          show if (!decide (V.int (cf m e) = V.int 0)) = true then _ else _
          rw [take_snoc he, List.filter_append, List.map_append]
          by_cases q : cf m e = 0
          · rw [q, if_neg (by simp)]
            refine ⟨s3, ?_⟩
            rw [h3]
            simp [q]
          · have zz : (!decide (V.int (cf m e) = V.int 0)) = true := by simp [q]
            rw [zz]
            refine iteT ?_
            refine ⟨_, rfl, _, h3, sl_lt ?_, same_mut s3 nD, ?_⟩
            · rw [List.length_map]
              have h1 := List.length_filter_le (fun e => decide (cf m e ≠ 0)) (ys.take i)
              have h2 : i < ys.length := (List.getElem?_eq_some_iff.mp he).1
              rw [List.length_take] at h1
              omega
            · rw [upd_same]
              simp [q]
        · rintro H3 ⟨s3, h3⟩
          rw [List.length_map, List.take_length] at h3
          have hd3 := s3 _ _ (sb _ _ hd)
          have s03 : Same H H3 := (s2.trans sb).trans s3
          generalize hzs : (ys.filter fun e => decide (cf m e ≠ 0)) = zs at h3
          have hzl : zs.length ≤ 1000000 := by
            have h1 := List.length_filter_le (fun e => decide (cf m e ≠ 0)) ys
            rw [hzs] at h1
            omega
          have hzk : ∀ e ∈ zs, e ∈ m.map (·.1) := fun e he => hk e (List.mem_filter.mp (show e ∈ ys.filter fun e => decide (cf m e ≠ 0) by rw [hzs]; exact he)).1
          refine ⟨_, rfl, D, rfl, ⟨_, SqL.of h3⟩, fun D2 nD2 => ?_⟩
          refine lc_list (K := K) (a := D) (xs := zs.map V.int) (fun i H4 => Grow K H3 D2 ((zs.take i).map fun e => (e, cf m e)) H4) (.start nD2) (fun i H4 _ g => SqL.of (g.same _ _ h3)) ?_ ?_
          · intro i x H4 hi g
            obtain ⟨e, he, rfl⟩ := ints_get hi
            refine ⟨rfl, ?_⟩
            dsimp only [tYes]
            rw [if_pos rfl]
            refine ⟨_, rfl, _, rfl, _, rfl, d, _, rfl, dget_int (g.same _ _ hd3) hn (hzk e (List.mem_of_getElem? he)), sl_of (show 2 ≤ 1000000 by decide), fun q nq => ?_⟩
            rw [take_snoc he, List.map_append]
            refine g.step nD2 nq e (cf m e) ?_
            have : i < zs.length := (List.getElem?_eq_some_iff.mp he).1
            rw [List.length_map, List.length_take]
            omega
          · intro H4 g
            rw [List.length_map, List.take_length] at g
            have hz : (zs.map fun e => (e, cf m e)) = kept p (cf ps) ys := by
              unfold kept
              rw [← hzs]
              have e1 : (fun e => decide (cf m e ≠ 0)) = fun e => decide (cf ps e % p ≠ 0) := funext fun e => by rw [hc]
              have e2 : (fun e => (e, cf m e)) = fun e => (e, cf ps e % p) := funext fun e => by rw [hc]
              rw [e1, e2]
            rw [hz] at g
            refine rd_tuple g fun v H5 s5 h5 => k v H5 _ (s03.trans s5) h5 (kept_nf hp srt (perm.nodup_iff.mpr hn) fun e he => ?_)
            rw [← hc, cf_out (fun z => he (perm.mem_iff.mpr z))]
    · refine ⟨_, (pss_cons (ps_set (i := 2) nd rfl (.inr rfl) pe_dnewK)
        (pss_cons (ps_for PassesOwn.never rfl (pi_list (pv 1)) (pg_tup rfl (pgs_cons (pg_name (i := 3) nd rfl (.inl rfl)) (pgs_cons (pg_name (i := 4) nd rfl (.inl rfl)) pgs_nil)))
          (pss_one (ps_dput hu (pv 2) (pv 3) (pe_op op_mod (pe_op op_add (pe_dget2 hu (pv 2) (pv 3) pe_int ⟨rfl, rfl, rfl, rfl⟩) (pv 4)) (pv 0)) rfl)))
        (pss_cons (ps_setLc (i := 5) (own := [("_law_exponent", 3)]) (by rfl) nd rfl rfl (sw_true rfl rfl rfl (by decide +kernel)) (pi_list (pe_callB (call_sortedDA rfl) (by rfl) B.sorted (by decide +kernel) (pa_cons (pv 2) pa_nil))) (blkOk_by (N := ["_law_prime_here", "_law_pairs", "_law_terms_here", "_law_exponent", "_law_coefficient", "_law_kept"]) (sc := defScope s__law_normal) (own := [("_law_exponent", 3)]) (by decide +kernel)) (fun _ _ _ _ _ => (pg_name (i := 3) nd rfl (.inl rfl))) (fun _ _ _ _ _ => (pts_one (pt_cmpR op_ne (pe_dget hu (pv 2) (pv 3) (fun _ _ => rfl)) pe_int (nomark _)))) (fun _ _ _ _ _ => (pv 3)))
        (pss_one (ps_ret (pe_callTy call_tuple_of (by rfl) B.tuple (by decide +kernel) (pa_cons (pe_lc (own := [("_law_exponent", 3)]) (by rfl) nd (pi_list (pv 5)) (blkOk_by (N := ["_law_prime_here", "_law_pairs", "_law_terms_here", "_law_exponent", "_law_coefficient", "_law_kept"]) (sc := defScope s__law_normal) (own := [("_law_exponent", 3)]) (by decide +kernel)) (fun _ _ _ _ _ => (pg_name (i := 3) nd rfl (.inl rfl))) (fun _ _ _ _ _ => pts_nil) (fun _ _ _ _ _ => (pe_tup (pa_cons (pv 3) (pa_cons (pe_dget hu (pv 2) (pv 3) (fun _ _ => rfl)) pa_nil))))) pa_nil))))))), ?_⟩
      intro d nd0
      have s1 : Same H (upd H d (.dK [])) := same_new nd0
      refine ⟨_, rfl, a, rfl, ⟨_, same_l s1 hs⟩, for_list (K := K) (a := a) (xs := xs) (fun i σ H2 => ∃ (m : Pol) (y z : Option V), σ = [some (.int p), some (.ref a), some (.ref d), y, z, none] ∧ Same H H2 ∧ H2 d = some (.dK (kvOf m)) ∧ (m.map (·.1)).Nodup ∧ m.length ≤ i ∧ ∀ e, cf m e = cf (ps.take i) e % p) ?_ ?_ ?_ ?_⟩
      · exact ⟨[], none, none, rfl, s1, upd_same, List.nodup_nil, Nat.le_refl _, fun _ => rfl⟩
      · rintro i σ H2 _ ⟨m, y, z, _, s2, _⟩
        exact same_l s2 hs
      · rintro i x σ H2 hi ⟨m, y, z, rfl, s2, hd, hn, hm, hc⟩
        obtain ⟨t, ht, b, rfl, hb⟩ := hP.get hi
        have hlt : i < ps.length := (List.getElem?_eq_some_iff.mp ht).1
        refine ⟨b, _, rfl, same_t s2 hb, rfl, _, _, rfl, _, _, rfl, rfl, ?_⟩
        refine ⟨_, rfl, d, rfl, .inl ⟨_, .inl hd⟩, _, rfl, _, dget_any t.1 hd, _, rfl, cf m t.1, t.2, kv_getD m t.1 hn, rfl, _, rfl, _, p, rfl, rfl, hp, _, rfl, _, rfl, d, _, rfl, dput_int t.1 ((cf m t.1 + t.2) % p) hd hn (by omega), ?_⟩
        refine ⟨put m t.1 ((cf m t.1 + t.2) % p), _, _, rfl, same_mut s2 nd0, upd_same, put_nodup _ _ _ hn, ?_, fun e => ?_⟩
        · have := put_len m t.1 ((cf m t.1 + t.2) % p)
          omega
        · rw [put_cf _ _ _ _ hn, take_snoc ht, cf_append, cf_cons, cf_nil]
          by_cases q : e = t.1
          · rw [if_pos q, if_pos q.symm, hc, q, Int.add_zero, Int.emod_add_emod]
          · rw [if_neg q, if_neg (fun z => q z.symm), hc, Int.zero_add, Int.add_zero]
      · rintro σ H2 ⟨m, y, z, rfl, s2, hd, hn, hm, hc⟩
        have hlen := hP.len
        rw [hlen, List.take_length] at hc
        have hml : m.length ≤ 1000000 := by omega
        refine ⟨_, rfl, d, kvOf m, m.map (·.1), rfl, .inl hd, kv_keys m, fun ys b perm srt nb => ?_⟩
        have hyl : ys.length ≤ 1000000 := by
          rw [perm.length_eq, List.length_map]
          exact hml
        have sb : Same H2 (upd H2 b (.lst (ys.map V.int))) := same_new nb
        have hk : ∀ e ∈ ys, e ∈ m.map (·.1) := fun e he => perm.mem_iff.mp he
        refine ⟨b, rfl, ⟨_, SqL.of upd_same⟩, fun D nD => ?_⟩
        refine lc_list (K := K) (a := b) (xs := ys.map V.int) (fun i H3 => Same (upd H2 b (.lst (ys.map V.int))) H3 ∧ H3 D = some (.lst (((ys.take i).filter fun e => decide (cf m e ≠ 0)).map V.int))) ⟨same_new nD, upd_same⟩ (fun i H3 _ h => SqL.of (h.1 _ _ upd_same)) ?_ ?_
        · rintro i x H3 hi ⟨s3, h3⟩
          obtain ⟨e, he, rfl⟩ := ints_get hi
          have hd3 := s3 _ _ (sb _ _ hd)
          refine ⟨rfl, _, rfl, _, rfl, d, _, rfl, dget_int hd3 hn (hk e (List.mem_of_getElem? he)), rfl, _, rfl, ?_⟩
          show if (!decide (V.int (cf m e) = V.int 0)) = true then _ else _
          rw [take_snoc he, List.filter_append, List.map_append]
          by_cases q : cf m e = 0
          · rw [q, if_neg (by simp)]
            refine ⟨s3, ?_⟩
            rw [h3]
            simp [q]
          · have zz : (!decide (V.int (cf m e) = V.int 0)) = true := by simp [q]
            rw [zz]
            refine iteT ?_
            refine ⟨_, rfl, _, h3, sl_lt ?_, same_mut s3 nD, ?_⟩
            · rw [List.length_map]
              have h1 := List.length_filter_le (fun e => decide (cf m e ≠ 0)) (ys.take i)
              have h2 : i < ys.length := (List.getElem?_eq_some_iff.mp he).1
              rw [List.length_take] at h1
              omega
            · rw [upd_same]
              simp [q]
        · rintro H3 ⟨s3, h3⟩
          rw [List.length_map, List.take_length] at h3
          have hd3 := s3 _ _ (sb _ _ hd)
          have s03 : Same H H3 := (s2.trans sb).trans s3
          generalize hzs : (ys.filter fun e => decide (cf m e ≠ 0)) = zs at h3
          have hzl : zs.length ≤ 1000000 := by
            have h1 := List.length_filter_le (fun e => decide (cf m e ≠ 0)) ys
            rw [hzs] at h1
            omega
          have hzk : ∀ e ∈ zs, e ∈ m.map (·.1) := fun e he => hk e (List.mem_filter.mp (show e ∈ ys.filter fun e => decide (cf m e ≠ 0) by rw [hzs]; exact he)).1
          refine ⟨_, rfl, D, rfl, ⟨_, SqL.of h3⟩, fun D2 nD2 => ?_⟩
          refine lc_list (K := K) (a := D) (xs := zs.map V.int) (fun i H4 => Grow K H3 D2 ((zs.take i).map fun e => (e, cf m e)) H4) (.start nD2) (fun i H4 _ g => SqL.of (g.same _ _ h3)) ?_ ?_
          · intro i x H4 hi g
            obtain ⟨e, he, rfl⟩ := ints_get hi
            refine ⟨rfl, ?_⟩
            dsimp only [tYes]
            rw [if_pos rfl]
            refine ⟨_, rfl, _, rfl, _, rfl, d, _, rfl, dget_int (g.same _ _ hd3) hn (hzk e (List.mem_of_getElem? he)), sl_of (show 2 ≤ 1000000 by decide), fun q nq => ?_⟩
            rw [take_snoc he, List.map_append]
            refine g.step nD2 nq e (cf m e) ?_
            have : i < zs.length := (List.getElem?_eq_some_iff.mp he).1
            rw [List.length_map, List.length_take]
            omega
          · intro H4 g
            rw [List.length_map, List.take_length] at g
            have hz : (zs.map fun e => (e, cf m e)) = kept p (cf ps) ys := by
              unfold kept
              rw [← hzs]
              have e1 : (fun e => decide (cf m e ≠ 0)) = fun e => decide (cf ps e % p ≠ 0) := funext fun e => by rw [hc]
              have e2 : (fun e => (e, cf m e)) = fun e => (e, cf ps e % p) := funext fun e => by rw [hc]
              rw [e1, e2]
            rw [hz] at g
            refine rd_tuple g fun v H5 s5 h5 => k v H5 _ (s03.trans s5) h5 (kept_nf hp srt (perm.nodup_iff.mpr hn) fun e he => ?_)
            rw [← hc, cf_out (fun z => he (perm.mem_iff.mpr z))]
theorem sc__law_handed : FnScope ["_law_pen_here", "_law_program", "_law_found", "_law_part"] ["_law_pen_here", "_law_program"] (defScope s__law_handed) := ⟨rfl, rfl, rfl, by decide +kernel, rfl, by decide +kernel, by decide +kernel⟩
/-- what a call returned, put beside what stands in a list that is being made -/
theorem er_in {H Hc H3 : Hp} {p D : Addr} {c : Addr} {n : Nat} {ys : List V} (pen : PenAt H p c n) (k : Kp p H Hc) (hD : Hc D = some (.lst ys)) : Same (er Hc H3) (er1 D (er H H3)) := fun b o e => by
  obtain ⟨h1, h2⟩ := er_at e
  refine er1_of (fun z => h2 ys (z ▸ hD)) (er_of h1 fun xs z => ?_)
  exact h2 xs (k _ _ (pen.dict.elim fun _ e => ne_of z e (by intro z; cases z)) z)
theorem er_old {H H2 : Hp} {p D c : Addr} {n : Nat} (pen : PenAt H p c n) (k : Kp p H H2) (nD : H D = none) : Tp H (er1 D (er H H2)) := by
  refine ⟨fun b xs e => ?_, fun b o u e => ?_⟩
  · exact er1_of (ne_of_none e nD) (er_of (k _ _ (pen.dict.elim fun _ z => ne_of e z (by intro z; cases z)) e) fun ys z => by rw [e] at z; cases z)
  · exact er1_of (ne_of_none e nD) (er_of (k _ _ (pen.dict.elim fun _ z => ne_of e z (by intro z; cases z)) e) fun ys z => by rw [e] at z; cases z)
theorem er1_new {D t : Addr} {H H2 : Hp} {o : HO} (al : H t = none) (nt : H2 t = none) (hD : t ≠ D) : Same (upd (er1 D (er H H2)) t o) (er1 D (er H (upd H2 t o))) := fun b u e => by
  by_cases h : b = t
  · subst h
    rw [upd_same] at e
    exact er1_of hD (er_of (by rw [upd_same]; exact e) fun xs z => by rw [al] at z; cases z)
  · rw [upd_ne h] at e
    obtain ⟨h1, h2⟩ := er1_at e
    obtain ⟨h3, h4⟩ := er_at h2
    exact er1_of h1 (er_of (by rw [upd_ne h]; exact h3) h4)
theorem er1_same {D : Addr} {H H2 H3 : Hp} (s : Same H2 H3) : Same (er1 D (er H H2)) (er1 D (er H H3)) := fun b o e => by
  obtain ⟨h1, h2⟩ := er1_at e
  exact er1_of h1 (er_same s _ _ h2)
theorem er1_updD {D : Addr} {H H2 : Hp} {o : HO} : Same (er1 D (er H H2)) (er1 D (er H (upd H2 D o))) := fun b u e => by
  obtain ⟨h1, h2⟩ := er1_at e
  obtain ⟨h3, h4⟩ := er_at h2
  exact er1_of h1 (er_of (by rw [upd_ne h1]; exact h3) h4)
theorem er1_kp {D p : Addr} {H H2 H3 : Hp} (k : Kp p H2 H3) : Kp p (er1 D (er H H2)) (er1 D (er H H3)) := fun b o n e => by
  obtain ⟨h1, h2⟩ := er1_at e
  exact er1_of h1 (er_kp k _ _ n h2)
theorem er1_penE {H H2 : Hp} {p c D c0 : Addr} {n m : Nat} (pen0 : PenAt H p c0 m) (pen : PenAt H2 p c n) (hp : p ≠ D) : ∃ kvs, er1 D (er H H2) p = some (.dK kvs) := by
  obtain ⟨kvs, e⟩ := pen.dict
  obtain ⟨kv0, e0⟩ := pen0.dict
  exact ⟨kvs, er1_of hp (er_of e fun xs z => by rw [e0] at z; cases z)⟩
theorem IVs.kpd {H H' : Hp} {p : Addr} {kvs : List (Key × V)} (hp : H p = some (.dK kvs)) (k : Kp p H H') : ∀ {xs : List V} {b : List Ins}, IVs K H xs b → IVs K H' xs b
  | _, _, .nil => .nil
  | _, _, .cons ⟨d, r1, r2⟩ q => .cons ⟨d, Dp.kpd hp k r1, r2⟩ (IVs.kpd hp k q)
theorem er_sub1 {D : Addr} {H H2 : Hp} : Same (er1 D (er H H2)) (er H H2) := fun b o e => (er1_at e).2
theorem cnP_snoc {b : List Ins} {j : Nat} {i : Ins} (h : b[j]? = some i) : cnP (b.take (j + 1)) = cnP (b.take j) + cnI i := by
  rw [take_snoc h, cnP_app, cnP_cons, show cnP [] = 0 by unfold cnP; rfl]
  rfl
theorem cnP_take : ∀ (b : List Ins) (j : Nat), cnP (b.take j) ≤ cnP b
  | [], _ => by rw [List.take_nil]; exact Nat.le_refl _
  | i :: r, 0 => by rw [List.take_zero, show cnP [] = 0 by unfold cnP; rfl]; exact Nat.zero_le _
  | i :: r, j + 1 => by
    rw [List.take_succ_cons, cnP_cons, cnP_cons]
    have := cnP_take r j
    omega
theorem ok__law_handed (k : Nat) (C__law_handed : Cal P w K mg base (k + 1) "_law_handed" (sp__law_handed K k)) {f : Addr} {fd : FuncData} (F : Fun K "_law_handed" "_law_handed" s__law_handed f fd) (B : Blt mg) (C__law_draw : Cal P w K mg base 1 "_law_draw" sp__law_draw) : FnOk P w K mg base CX0 (k + 1 + 1) f fd ["_law_pen_here", "_law_program"] (sp__law_handed K (k + 1)) := by
  refine F.ok sc__law_handed (fun vs H Q E h => ?_) (fun cdv A outer s H vs Q E hr h => ?_)
  · obtain ⟨p, c, v, b, n, rfl, _⟩ := h
    rfl
  · obtain ⟨p, c, v, b, n, rfl, hv, hd, hc, pen, hn, q⟩ := h
    have nd := sc__law_handed.nd
    obtain ⟨a, xs, rfl, hsq, hI⟩ := hv.inv
    have hlb : b.length ≤ 1000 := Nat.le_trans (len_cnP b) hc
    rcases hsq with hs | hs
    · refine ⟨_, (pss_cons (ps_set (i := 2) nd rfl (.inl rfl) (pe_lst pa_nil))
    (pss_cons (ps_for PassesOwn.never rfl (pi_list (pv 1)) (pg_name (i := 3) nd rfl (.inl rfl))
      (pss_one (ps_expr (pe_bm PySem.F.plainAttrs_list PySem.F.slot_list_append PySem.F.type_list_append mt_append (pv 2) (pa_cons (pe_ifExp (pt_cmpR op_eq (pe_ix ix_tup (pv 3) pe_int (fun _ _ => rfl)) pe_str (nomark _)) (pe_op op_catA (pe_slice sl_tupA (pv 3) po_none (po_some pe_int)) (pe_tup (pa_cons (pe_c C__law_handed hr (by omega) (by rfl) (pa_cons (pv 0) (pa_cons (pe_ix ix_tup (pv 3) pe_int (fun _ _ => rfl)) pa_nil))) pa_nil))) (pv 3)) pa_nil)))))
    (pss_one (ps_ret (pe_ifExp (pt_cmpR op_eq (pe_c C__law_draw hr (by omega) (by rfl) (pa_cons (pv 0) (pa_cons pe_int pa_nil))) pe_int (nomark _)) (pv 2) (pe_callTy call_tuple_of (by rfl) B.tuple (by decide +kernel) (pa_cons (pv 2) pa_nil))))))), ?_⟩
      refine ⟨Nat.zero_le _, fun D nD => ?_⟩
      have s1 := same_new nD (o := HO.lst [])
      have npD : D ≠ p := pen.np nD
      have ncD : D ≠ c := pen.nc nD
      have hs1 : ∀ H2, Kp p H H2 → _ := fun H2 k2 => kp_l pen k2 hs
      refine ⟨_, rfl, a, rfl, ⟨_, hs1 _ (Same.kp s1)⟩, for_list (K := K) (a := a) (xs := xs) (fun j σ H2 => ∃ (zs : List V) (y : Option V), σ = [some (.ref p), some (.ref a), some (.ref D), y] ∧ Kp p H H2 ∧ PenAt H2 p c (n + cnP (b.take j)) ∧ H2 D = some (.lst zs) ∧ IVs K (er1 D (er H H2)) zs (b.take j)) ⟨[], none, rfl, Same.kp s1, (pen.same s1).mono (by omega), upd_same, by rw [List.take_zero]; exact .nil⟩ ?_ ?_ ?_⟩
      · rintro j σ H2 _ ⟨zs, y, _, k2, _⟩
        exact hs1 H2 k2
      · rintro j x σ H2 hj ⟨zs, y, rfl, k2, pen2, hD2, hZ⟩
        obtain ⟨i, hi, hx0⟩ := hI.get hj
        have hx := hx0.kp pen k2
        have hm := List.mem_of_getElem? hi
        have hjl : j < b.length := (List.getElem?_eq_some_iff.mp hi).1
        have hzl : zs.length ≤ 1000 := by
          rw [hZ.len, List.length_take]
          omega
        have hcj := cnP_take b j
        have hcn := cnP_snoc hi
        have hcj1 := cnP_take b (j + 1)
        refine ⟨_, rfl, .inl ⟨rfl, _, SqL.of hD2⟩, ?_⟩
        rcases hx0.inv with ⟨e, m, rfl, ht0, rfl⟩ | ⟨e, m, rfl, ht0, rfl⟩ | ⟨e, m, y, bb, rfl, ht0, hy0, rfl⟩
        · have ht := tp_t (pen.tp k2) ht0
          refine ⟨_, rfl, e, _, 0, _, rfl, rfl, ht, rfl, rfl, _, rfl, iteN v_sr ?_⟩
          refine ⟨_, rfl, D, zs, _, rfl, rfl, hD2, sl_lt (by omega), zs ++ [.ref e], _, rfl, fun x o nx ex => by rw [upd_ne (ne_of_none ex nD)]; exact k2 _ _ nx ex, (pen2.mono (by omega)).upd npD ncD, upd_same, ?_⟩
          rw [take_snoc hi]
          exact IVs.app (hZ.same er1_updD) (.cons (iv_step (tp_t ((er_old pen k2 nD).trans (Same.tp er1_updD)) ht0)) .nil)
        · have ht := tp_t (pen.tp k2) ht0
          refine ⟨_, rfl, e, _, 0, _, rfl, rfl, ht, rfl, rfl, _, rfl, iteN v_tr ?_⟩
          refine ⟨_, rfl, D, zs, _, rfl, rfl, hD2, sl_lt (by omega), zs ++ [.ref e], _, rfl, fun x o nx ex => by rw [upd_ne (ne_of_none ex nD)]; exact k2 _ _ nx ex, (pen2.mono (by omega)).upd npD ncD, upd_same, ?_⟩
          rw [take_snoc hi]
          exact IVs.app (hZ.same er1_updD) (.cons (iv_turn (tp_t ((er_old pen k2 nD).trans (Same.tp er1_updD)) ht0)) .nil)
        · have ht := tp_t (pen.tp k2) ht0
          have hy := hy0.kp pen k2
          have hdi := dpP_mem hm
          rw [dpI] at hdi
          have hcm := cnP_mem hm
          rw [cnI] at hcm hcn
          refine ⟨_, rfl, e, _, 0, _, rfl, rfl, ht, rfl, rfl, _, rfl, iteS rfl ?_⟩
          refine ⟨_, rfl, 2, rfl, e, _, rfl, ht, (fun z => absurd (show HT.sIx 3 0 none = 0 ∧ HT.sIx 3 3 (some 2) = 3 from z) (by decide +kernel)), fun _ t1 nt1 => ?_⟩
          have z1 := same_new nt1 (o := HO.tup (cutV [V.str "repeat", V.int m, y] none (some 2)))
          have ecut : cutV [V.str "repeat", V.int m, y] none (some 2) = [V.str "repeat", V.int m] := rfl
          have pen3 := pen2.same z1
          refine ⟨_, rfl, _, rfl, e, _, 2, _, rfl, rfl, same_t z1 ht, rfl, p, c, y, bb, _, rfl, hy.same z1, by omega, by omega, pen3, by omega, fun u H3 k3 pen4 hu => ?_⟩
          refine ⟨sl_of (show 1 ≤ 1000000 by decide), fun t2 nt2 => ?_⟩
          have z2 := same_new nt2 (o := HO.tup [u])
          have k23 : Kp p H2 H3 := (Same.kp z1).trans k3
          have ht1 : SqT K _ t1 [V.str "repeat", V.int m] := same_t z2 (tp_t (pen3.tp k3) (SqT.of (upd_same (H := H2) (o := HO.tup (cutV [V.str "repeat", V.int m, y] none (some 2))))))
          refine ⟨t1, t2, _, _, rfl, rfl, ht1, SqT.of upd_same, sl_of (show 2 + 1 ≤ 1000000 by decide), (fun z => by cases z), (fun _ z => by cases z), fun _ _ t3 nt3 => ?_⟩
          have z3 := same_new nt3 (o := HO.tup ([V.str "repeat", V.int m] ++ [u]))
          have S3 := z2.trans z3
          have hD3 : H3 D = some (.lst zs) := k23 _ _ npD hD2
          have hD4 := S3 _ _ hD3
          refine ⟨D, zs, _, rfl, rfl, hD4, sl_lt (by omega), zs ++ [.ref t3], _, rfl, fun x o nx ex => ?_, ((pen4.same S3).mono (by omega)).upd npD ncD, upd_same, ?_⟩
          · rw [upd_ne (ne_of_none ex nD)]
            exact S3 _ _ (k23 _ _ nx (k2 _ _ nx ex))
          · rw [take_snoc hi]
            have nHt3 : H t3 = none := by
              cases hh : H t3 with
              | none => rfl
              | some o =>
                have e2 := z2 _ _ (k23 _ _ (fun z => ?_) (k2 _ _ (fun z => ?_) hh))
                · rw [nt3] at e2
                  cases e2
                all_goals
                  subst z
                  obtain ⟨kvs, ep⟩ := (pen4.same z2).dict
                  rw [nt3] at ep
                  cases ep
            have nt3D : t3 ≠ D := fun z => by
              subst z
              have := z2 _ _ hD3
              rw [nt3] at this
              cases this
            obtain ⟨kvs, hpd⟩ := er1_penE pen pen2 npD.symm
            have hZ3 := (IVs.kpd hpd (er1_kp k23) hZ).same (er1_same S3)
            have kc : Kp p H (upd H2 t1 (HO.tup (cutV [V.str "repeat", V.int m, y] none (some 2)))) := k2.trans (Same.kp z1)
            have hu3 := (hu.same (er_in pen kc (z1 _ _ hD2))).same (er1_same z2)
            have hit : IV K _ (V.ref t3) (.rep m bb) := iv_rep (SqT.of (upd_same (H := er1 D (er H (upd H3 t2 (HO.tup [u])))) (o := HO.tup [V.str "repeat", V.int m, u]))) (hu3.same (same_new (by
              cases hh : er1 D (er H (upd H3 t2 (HO.tup [u]))) t3 with
              | none => rfl
              | some o =>
                have := (er_at (er1_at hh).2).1
                rw [nt3] at this
                cases this)))
            exact IVs.app (hZ3.same er1_updD) (.cons ((hit.same (er1_new nHt3 nt3 nt3D)).same er1_updD) .nil)
      · rintro σ H2 ⟨zs, y, rfl, k2, pen2, hD2, hZ⟩
        rw [hI.len, List.take_length] at hZ pen2
        refine ⟨_, rfl, p, c, 2, _, rfl, by decide, by decide, pen2, by omega, fun r H3 _ _ k3 pen3 => ?_⟩
        have hD3 : H3 D = some (.lst zs) := k3 _ _ npD hD2
        obtain ⟨kvs, hpd⟩ := er1_penE pen pen2 npD.symm
        have hZ3 := IVs.kpd hpd (er1_kp k3) hZ
        refine ⟨rfl, _, rfl, ite2 (fun _ => ?_) fun _ => ?_⟩
        · exact ⟨_, rfl, q _ _ (k2.trans k3) (pen3.mono (by omega)) (pv_list (SqL.of (er_of hD3 fun ys z => by rw [nD] at z; cases z)) (hZ3.same er_sub1))⟩
        · refine ⟨_, rfl, D, zs, rfl, .inl ⟨SqL.of hD3, fun t nt => ?_⟩⟩
          have nHt : H t = none := by
            cases hh : H t with
            | none => rfl
            | some o =>
              have e2 := k3 _ _ (fun z => ?_) (k2 _ _ (fun z => ?_) hh)
              · rw [nt] at e2
                cases e2
              all_goals
                subst z
                obtain ⟨kvs, ep⟩ := pen3.dict
                rw [nt] at ep
                cases ep
          have z4 := same_new nt (o := HO.tup zs)
          exact q _ _ (k2.trans (k3.trans (Same.kp z4))) ((pen3.same z4).mono (by omega)) (pv_tup (SqT.of (er_of (by rw [upd_same]) fun ys z => by rw [nHt] at z; cases z)) ((hZ3.same er_sub1).same (er_same z4)))
    · refine ⟨_, (pss_cons (ps_set (i := 2) nd rfl (.inl rfl) (pe_lst pa_nil))
    (pss_cons (ps_for PassesOwn.never rfl (pi_tup (pv 1)) (pg_name (i := 3) nd rfl (.inl rfl))
      (pss_one (ps_expr (pe_bm PySem.F.plainAttrs_list PySem.F.slot_list_append PySem.F.type_list_append mt_append (pv 2) (pa_cons (pe_ifExp (pt_cmpR op_eq (pe_ix ix_tup (pv 3) pe_int (fun _ _ => rfl)) pe_str (nomark _)) (pe_op op_catA (pe_slice sl_tupA (pv 3) po_none (po_some pe_int)) (pe_tup (pa_cons (pe_c C__law_handed hr (by omega) (by rfl) (pa_cons (pv 0) (pa_cons (pe_ix ix_tup (pv 3) pe_int (fun _ _ => rfl)) pa_nil))) pa_nil))) (pv 3)) pa_nil)))))
    (pss_one (ps_ret (pe_ifExp (pt_cmpR op_eq (pe_c C__law_draw hr (by omega) (by rfl) (pa_cons (pv 0) (pa_cons pe_int pa_nil))) pe_int (nomark _)) (pv 2) (pe_callTy call_tuple_of (by rfl) B.tuple (by decide +kernel) (pa_cons (pv 2) pa_nil))))))), ?_⟩
      refine ⟨Nat.zero_le _, fun D nD => ?_⟩
      have s1 := same_new nD (o := HO.lst [])
      have npD : D ≠ p := pen.np nD
      have ncD : D ≠ c := pen.nc nD
      have hs1 : ∀ H2, Kp p H H2 → _ := fun H2 k2 => tp_t (pen.tp k2) hs
      refine ⟨_, rfl, a, rfl, ⟨_, hs1 _ (Same.kp s1)⟩, for_tup (K := K) (a := a) (xs := xs) (fun j σ H2 => ∃ (zs : List V) (y : Option V), σ = [some (.ref p), some (.ref a), some (.ref D), y] ∧ Kp p H H2 ∧ PenAt H2 p c (n + cnP (b.take j)) ∧ H2 D = some (.lst zs) ∧ IVs K (er1 D (er H H2)) zs (b.take j)) ⟨[], none, rfl, Same.kp s1, (pen.same s1).mono (by omega), upd_same, by rw [List.take_zero]; exact .nil⟩ ?_ ?_ ?_⟩
      · rintro j σ H2 _ ⟨zs, y, _, k2, _⟩
        exact hs1 H2 k2
      · rintro j x σ H2 hj ⟨zs, y, rfl, k2, pen2, hD2, hZ⟩
        obtain ⟨i, hi, hx0⟩ := hI.get hj
        have hx := hx0.kp pen k2
        have hm := List.mem_of_getElem? hi
        have hjl : j < b.length := (List.getElem?_eq_some_iff.mp hi).1
        have hzl : zs.length ≤ 1000 := by
          rw [hZ.len, List.length_take]
          omega
        have hcj := cnP_take b j
        have hcn := cnP_snoc hi
        have hcj1 := cnP_take b (j + 1)
        refine ⟨_, rfl, .inl ⟨rfl, _, SqL.of hD2⟩, ?_⟩
        rcases hx0.inv with ⟨e, m, rfl, ht0, rfl⟩ | ⟨e, m, rfl, ht0, rfl⟩ | ⟨e, m, y, bb, rfl, ht0, hy0, rfl⟩
        · have ht := tp_t (pen.tp k2) ht0
          refine ⟨_, rfl, e, _, 0, _, rfl, rfl, ht, rfl, rfl, _, rfl, iteN v_sr ?_⟩
          refine ⟨_, rfl, D, zs, _, rfl, rfl, hD2, sl_lt (by omega), zs ++ [.ref e], _, rfl, fun x o nx ex => by rw [upd_ne (ne_of_none ex nD)]; exact k2 _ _ nx ex, (pen2.mono (by omega)).upd npD ncD, upd_same, ?_⟩
          rw [take_snoc hi]
          exact IVs.app (hZ.same er1_updD) (.cons (iv_step (tp_t ((er_old pen k2 nD).trans (Same.tp er1_updD)) ht0)) .nil)
        · have ht := tp_t (pen.tp k2) ht0
          refine ⟨_, rfl, e, _, 0, _, rfl, rfl, ht, rfl, rfl, _, rfl, iteN v_tr ?_⟩
          refine ⟨_, rfl, D, zs, _, rfl, rfl, hD2, sl_lt (by omega), zs ++ [.ref e], _, rfl, fun x o nx ex => by rw [upd_ne (ne_of_none ex nD)]; exact k2 _ _ nx ex, (pen2.mono (by omega)).upd npD ncD, upd_same, ?_⟩
          rw [take_snoc hi]
          exact IVs.app (hZ.same er1_updD) (.cons (iv_turn (tp_t ((er_old pen k2 nD).trans (Same.tp er1_updD)) ht0)) .nil)
        · have ht := tp_t (pen.tp k2) ht0
          have hy := hy0.kp pen k2
          have hdi := dpP_mem hm
          rw [dpI] at hdi
          have hcm := cnP_mem hm
          rw [cnI] at hcm hcn
          refine ⟨_, rfl, e, _, 0, _, rfl, rfl, ht, rfl, rfl, _, rfl, iteS rfl ?_⟩
          refine ⟨_, rfl, 2, rfl, e, _, rfl, ht, (fun z => absurd (show HT.sIx 3 0 none = 0 ∧ HT.sIx 3 3 (some 2) = 3 from z) (by decide +kernel)), fun _ t1 nt1 => ?_⟩
          have z1 := same_new nt1 (o := HO.tup (cutV [V.str "repeat", V.int m, y] none (some 2)))
          have ecut : cutV [V.str "repeat", V.int m, y] none (some 2) = [V.str "repeat", V.int m] := rfl
          have pen3 := pen2.same z1
          refine ⟨_, rfl, _, rfl, e, _, 2, _, rfl, rfl, same_t z1 ht, rfl, p, c, y, bb, _, rfl, hy.same z1, by omega, by omega, pen3, by omega, fun u H3 k3 pen4 hu => ?_⟩
          refine ⟨sl_of (show 1 ≤ 1000000 by decide), fun t2 nt2 => ?_⟩
          have z2 := same_new nt2 (o := HO.tup [u])
          have k23 : Kp p H2 H3 := (Same.kp z1).trans k3
          have ht1 : SqT K _ t1 [V.str "repeat", V.int m] := same_t z2 (tp_t (pen3.tp k3) (SqT.of (upd_same (H := H2) (o := HO.tup (cutV [V.str "repeat", V.int m, y] none (some 2))))))
          refine ⟨t1, t2, _, _, rfl, rfl, ht1, SqT.of upd_same, sl_of (show 2 + 1 ≤ 1000000 by decide), (fun z => by cases z), (fun _ z => by cases z), fun _ _ t3 nt3 => ?_⟩
          have z3 := same_new nt3 (o := HO.tup ([V.str "repeat", V.int m] ++ [u]))
          have S3 := z2.trans z3
          have hD3 : H3 D = some (.lst zs) := k23 _ _ npD hD2
          have hD4 := S3 _ _ hD3
          refine ⟨D, zs, _, rfl, rfl, hD4, sl_lt (by omega), zs ++ [.ref t3], _, rfl, fun x o nx ex => ?_, ((pen4.same S3).mono (by omega)).upd npD ncD, upd_same, ?_⟩
          · rw [upd_ne (ne_of_none ex nD)]
            exact S3 _ _ (k23 _ _ nx (k2 _ _ nx ex))
          · rw [take_snoc hi]
            have nHt3 : H t3 = none := by
              cases hh : H t3 with
              | none => rfl
              | some o =>
                have e2 := z2 _ _ (k23 _ _ (fun z => ?_) (k2 _ _ (fun z => ?_) hh))
                · rw [nt3] at e2
                  cases e2
                all_goals
                  subst z
                  obtain ⟨kvs, ep⟩ := (pen4.same z2).dict
                  rw [nt3] at ep
                  cases ep
            have nt3D : t3 ≠ D := fun z => by
              subst z
              have := z2 _ _ hD3
              rw [nt3] at this
              cases this
            obtain ⟨kvs, hpd⟩ := er1_penE pen pen2 npD.symm
            have hZ3 := (IVs.kpd hpd (er1_kp k23) hZ).same (er1_same S3)
            have kc : Kp p H (upd H2 t1 (HO.tup (cutV [V.str "repeat", V.int m, y] none (some 2)))) := k2.trans (Same.kp z1)
            have hu3 := (hu.same (er_in pen kc (z1 _ _ hD2))).same (er1_same z2)
            have hit : IV K _ (V.ref t3) (.rep m bb) := iv_rep (SqT.of (upd_same (H := er1 D (er H (upd H3 t2 (HO.tup [u])))) (o := HO.tup [V.str "repeat", V.int m, u]))) (hu3.same (same_new (by
              cases hh : er1 D (er H (upd H3 t2 (HO.tup [u]))) t3 with
              | none => rfl
              | some o =>
                have := (er_at (er1_at hh).2).1
                rw [nt3] at this
                cases this)))
            exact IVs.app (hZ3.same er1_updD) (.cons ((hit.same (er1_new nHt3 nt3 nt3D)).same er1_updD) .nil)
      · rintro σ H2 ⟨zs, y, rfl, k2, pen2, hD2, hZ⟩
        rw [hI.len, List.take_length] at hZ pen2
        refine ⟨_, rfl, p, c, 2, _, rfl, by decide, by decide, pen2, by omega, fun r H3 _ _ k3 pen3 => ?_⟩
        have hD3 : H3 D = some (.lst zs) := k3 _ _ npD hD2
        obtain ⟨kvs, hpd⟩ := er1_penE pen pen2 npD.symm
        have hZ3 := IVs.kpd hpd (er1_kp k3) hZ
        refine ⟨rfl, _, rfl, ite2 (fun _ => ?_) fun _ => ?_⟩
        · exact ⟨_, rfl, q _ _ (k2.trans k3) (pen3.mono (by omega)) (pv_list (SqL.of (er_of hD3 fun ys z => by rw [nD] at z; cases z)) (hZ3.same er_sub1))⟩
        · refine ⟨_, rfl, D, zs, rfl, .inl ⟨SqL.of hD3, fun t nt => ?_⟩⟩
          have nHt : H t = none := by
            cases hh : H t with
            | none => rfl
            | some o =>
              have e2 := k3 _ _ (fun z => ?_) (k2 _ _ (fun z => ?_) hh)
              · rw [nt] at e2
                cases e2
              all_goals
                subst z
                obtain ⟨kvs, ep⟩ := pen3.dict
                rw [nt] at ep
                cases ep
          have z4 := same_new nt (o := HO.tup zs)
          exact q _ _ (k2.trans (k3.trans (Same.kp z4))) ((pen3.same z4).mono (by omega)) (pv_tup (SqT.of (er_of (by rw [upd_same]) fun ys z => by rw [nHt] at z; cases z)) ((hZ3.same er_sub1).same (er_same z4)))
theorem sc__law_shift : FnScope ["_law_program", "_law_part"] ["_law_program"] (defScope s__law_shift) := ⟨rfl, rfl, rfl, by decide +kernel, rfl, by decide +kernel, by decide +kernel⟩
theorem ok__law_shift (k : Nat) (C__law_shift : Cal P w K mg base (k + 0) "_law_shift" (sp__law_shift K k)) {f : Addr} {fd : FuncData} (F : Fun K "_law_shift" "_law_shift" s__law_shift f fd) (B : Blt mg) : FnOk P w K mg base CX0 (k + 0 + 1) f fd ["_law_program"] (sp__law_shift K (k + 1)) := by
  refine F.ok sc__law_shift (fun vs H Q E h => ?_) (fun cdv A outer s H vs Q E hr h => ?_)
  · obtain ⟨v, b, rfl, _⟩ := h
    rfl
  · obtain ⟨v, b, rfl, hv, hd, hk, hw, hl, q⟩ := h
    have nd := sc__law_shift.nd
    obtain ⟨a, xs, rfl, hsq, hI⟩ := hv.inv
    rcases hsq with hs | hs
    · refine ⟨_, (pss_one (ps_ret (pe_callB (cr_sum rfl) (by rfl) B.sum (by decide +kernel) (pa_cons (pe_lc (own := [("_law_part", 1)]) (by rfl) nd (pi_list (pv 0)) (blkOk_by (N := ["_law_program", "_law_part"]) (sc := defScope s__law_shift) (own := [("_law_part", 1)]) (by decide +kernel)) (fun _ _ _ _ _ => (pg_name (i := 1) nd rfl (.inl rfl))) (fun _ _ _ _ _ => pts_nil) (fun _ _ _ _ _ => (pe_op op_mulW (pe_ix (ix_tupK K rfl) (pv 1) pe_int (fun _ _ => rfl)) (pe_ifExp (pt_cmpR op_eq (pe_ix (ix_tupK K rfl) (pv 1) pe_int (fun _ _ => rfl)) pe_str (nomark _)) (pe_c C__law_shift hr (by omega) (by rfl) (pa_cons (pe_ix (ix_tupK K rfl) (pv 1) pe_int (fun _ _ => rfl)) pa_nil)) (pe_callTy call_int1 (by rfl) B.int (by decide +kernel) (pa_cons (pe_cmpR op_eq (pe_ix (ix_tupK K rfl) (pv 1) pe_int (fun _ _ => rfl)) pe_str (nomark _)) pa_nil)))))) pa_nil)))), ?_⟩
      dsimp only [tNext, tSeq, tRet, tCB, tCons, tNil]
      refine lcIvL (K := K) shI (fun R r => ⟨_, rfl, r⟩) hs hI (by omega) (fun _ => rfl) (fun t htm x H2 s2 hx R r => ?_) fun D H2 nD s2 hD => ⟨D, b.map shI, rfl, SqL.of hD, by rw [sh_sum]; exact q H2 s2⟩
      rcases hx.inv with ⟨c, n, rfl, ht, rfl⟩ | ⟨c, n, rfl, ht, rfl⟩ | ⟨c, n, y, bb, rfl, ht, hy, rfl⟩
      · have wi := WP_mem hw htm
        rw [WI] at wi
        refine ⟨_, rfl, c, _, 1, _, rfl, rfl, ht, rfl, _, rfl, c, _, 0, _, rfl, rfl, ht, rfl, rfl, _, rfl, iteN v_sr ?_⟩
        refine ⟨_, rfl, c, _, 0, _, rfl, rfl, ht, rfl, rfl, .inr ⟨_, rfl, ?_⟩⟩
        rw [show decide (V.str "step" = V.str "step") = true from decide_eq_true rfl]
        refine ⟨n, 1, rfl, rfl, wide_mul (a := 101) (b := 1) (Nat.lt_of_le_of_lt wi (by decide +kernel)) (by decide) (by decide) (by decide) (by decide), ?_⟩
        have := r H2 (Same.refl _)
        rw [shI] at this
        show R (V.int (n * 1)) H2
        rw [Int.mul_one]
        exact this
      · have wi := WP_mem hw htm
        rw [WI] at wi
        refine ⟨_, rfl, c, _, 1, _, rfl, rfl, ht, rfl, _, rfl, c, _, 0, _, rfl, rfl, ht, rfl, rfl, _, rfl, iteN v_tr ?_⟩
        refine ⟨_, rfl, c, _, 0, _, rfl, rfl, ht, rfl, rfl, .inr ⟨_, rfl, ?_⟩⟩
        rw [show decide (V.str "turn" = V.str "step") = false from decide_eq_false v_ts]
        refine ⟨n, 0, rfl, rfl, wide_mul (a := 101) (b := 1) (Nat.lt_of_le_of_lt wi (by decide +kernel)) (by decide) (by decide) (by decide) (by decide), ?_⟩
        have := r H2 (Same.refl _)
        rw [shI] at this
        show R (V.int (n * 0)) H2
        rw [Int.mul_zero]
        exact this
      · have hdi := dpP_mem htm
        rw [dpI] at hdi
        have wi := WP_mem hw htm
        rw [WI] at wi
        refine ⟨_, rfl, c, _, 1, _, rfl, rfl, ht, rfl, _, rfl, c, _, 0, _, rfl, rfl, ht, rfl, rfl, _, rfl, iteS rfl ?_⟩
        refine ⟨_, rfl, c, _, 2, _, rfl, rfl, ht, rfl, y, bb, rfl, hy, by omega, by omega, wi.2.2, wi.2.1, fun H3 s3 => ?_⟩
        refine ⟨n, shP bb, rfl, rfl, wide_mul (a := 101) (b := 331) (Nat.lt_of_le_of_lt wi.1 (by decide +kernel)) (sh_lt (k := k) (by omega) (by omega) wi.2.2 wi.2.1) (by decide) (by decide) (by decide), ?_⟩
        have := r H3 s3
        rw [shI] at this
        exact this
    · refine ⟨_, (pss_one (ps_ret (pe_callB (cr_sum rfl) (by rfl) B.sum (by decide +kernel) (pa_cons (pe_lc (own := [("_law_part", 1)]) (by rfl) nd (pi_tup (pv 0)) (blkOk_by (N := ["_law_program", "_law_part"]) (sc := defScope s__law_shift) (own := [("_law_part", 1)]) (by decide +kernel)) (fun _ _ _ _ _ => (pg_name (i := 1) nd rfl (.inl rfl))) (fun _ _ _ _ _ => pts_nil) (fun _ _ _ _ _ => (pe_op op_mulW (pe_ix (ix_tupK K rfl) (pv 1) pe_int (fun _ _ => rfl)) (pe_ifExp (pt_cmpR op_eq (pe_ix (ix_tupK K rfl) (pv 1) pe_int (fun _ _ => rfl)) pe_str (nomark _)) (pe_c C__law_shift hr (by omega) (by rfl) (pa_cons (pe_ix (ix_tupK K rfl) (pv 1) pe_int (fun _ _ => rfl)) pa_nil)) (pe_callTy call_int1 (by rfl) B.int (by decide +kernel) (pa_cons (pe_cmpR op_eq (pe_ix (ix_tupK K rfl) (pv 1) pe_int (fun _ _ => rfl)) pe_str (nomark _)) pa_nil)))))) pa_nil)))), ?_⟩
      dsimp only [tNext, tSeq, tRet, tCB, tCons, tNil]
      refine lcIvT (K := K) shI (fun R r => ⟨_, rfl, r⟩) hs hI (by omega) (fun _ => rfl) (fun t htm x H2 s2 hx R r => ?_) fun D H2 nD s2 hD => ⟨D, b.map shI, rfl, SqL.of hD, by rw [sh_sum]; exact q H2 s2⟩
      rcases hx.inv with ⟨c, n, rfl, ht, rfl⟩ | ⟨c, n, rfl, ht, rfl⟩ | ⟨c, n, y, bb, rfl, ht, hy, rfl⟩
      · have wi := WP_mem hw htm
        rw [WI] at wi
        refine ⟨_, rfl, c, _, 1, _, rfl, rfl, ht, rfl, _, rfl, c, _, 0, _, rfl, rfl, ht, rfl, rfl, _, rfl, iteN v_sr ?_⟩
        refine ⟨_, rfl, c, _, 0, _, rfl, rfl, ht, rfl, rfl, .inr ⟨_, rfl, ?_⟩⟩
        rw [show decide (V.str "step" = V.str "step") = true from decide_eq_true rfl]
        refine ⟨n, 1, rfl, rfl, wide_mul (a := 101) (b := 1) (Nat.lt_of_le_of_lt wi (by decide +kernel)) (by decide) (by decide) (by decide) (by decide), ?_⟩
        have := r H2 (Same.refl _)
        rw [shI] at this
        show R (V.int (n * 1)) H2
        rw [Int.mul_one]
        exact this
      · have wi := WP_mem hw htm
        rw [WI] at wi
        refine ⟨_, rfl, c, _, 1, _, rfl, rfl, ht, rfl, _, rfl, c, _, 0, _, rfl, rfl, ht, rfl, rfl, _, rfl, iteN v_tr ?_⟩
        refine ⟨_, rfl, c, _, 0, _, rfl, rfl, ht, rfl, rfl, .inr ⟨_, rfl, ?_⟩⟩
        rw [show decide (V.str "turn" = V.str "step") = false from decide_eq_false v_ts]
        refine ⟨n, 0, rfl, rfl, wide_mul (a := 101) (b := 1) (Nat.lt_of_le_of_lt wi (by decide +kernel)) (by decide) (by decide) (by decide) (by decide), ?_⟩
        have := r H2 (Same.refl _)
        rw [shI] at this
        show R (V.int (n * 0)) H2
        rw [Int.mul_zero]
        exact this
      · have hdi := dpP_mem htm
        rw [dpI] at hdi
        have wi := WP_mem hw htm
        rw [WI] at wi
        refine ⟨_, rfl, c, _, 1, _, rfl, rfl, ht, rfl, _, rfl, c, _, 0, _, rfl, rfl, ht, rfl, rfl, _, rfl, iteS rfl ?_⟩
        refine ⟨_, rfl, c, _, 2, _, rfl, rfl, ht, rfl, y, bb, rfl, hy, by omega, by omega, wi.2.2, wi.2.1, fun H3 s3 => ?_⟩
        refine ⟨n, shP bb, rfl, rfl, wide_mul (a := 101) (b := 331) (Nat.lt_of_le_of_lt wi.1 (by decide +kernel)) (sh_lt (k := k) (by omega) (by omega) wi.2.2 wi.2.1) (by decide) (by decide) (by decide), ?_⟩
        have := r H3 s3
        rw [shI] at this
        exact this
theorem sc__law_executed : FnScope ["_law_program", "_law_part"] ["_law_program"] (defScope s__law_executed) := ⟨rfl, rfl, rfl, by decide +kernel, rfl, by decide +kernel, by decide +kernel⟩
theorem ok__law_executed (k : Nat) (C__law_executed : Cal P w K mg base (k + 0) "_law_executed" (sp__law_executed K k)) {f : Addr} {fd : FuncData} (F : Fun K "_law_executed" "_law_executed" s__law_executed f fd) (B : Blt mg) : FnOk P w K mg base CX0 (k + 0 + 1) f fd ["_law_program"] (sp__law_executed K (k + 1)) := by
  refine F.ok sc__law_executed (fun vs H Q E h => ?_) (fun cdv A outer s H vs Q E hr h => ?_)
  · obtain ⟨v, b, rfl, _⟩ := h
    rfl
  · obtain ⟨v, b, rfl, hv, hd, hk, hw, hl, q⟩ := h
    have nd := sc__law_executed.nd
    obtain ⟨a, xs, rfl, hsq, hI⟩ := hv.inv
    rcases hsq with hs | hs
    · refine ⟨_, (pss_one (ps_ret (pe_callB (cr_sum rfl) (by rfl) B.sum (by decide +kernel) (pa_cons (pe_lc (own := [("_law_part", 1)]) (by rfl) nd (pi_list (pv 0)) (blkOk_by (N := ["_law_program", "_law_part"]) (sc := defScope s__law_executed) (own := [("_law_part", 1)]) (by decide +kernel)) (fun _ _ _ _ _ => (pg_name (i := 1) nd rfl (.inl rfl))) (fun _ _ _ _ _ => pts_nil) (fun _ _ _ _ _ => (pe_ifExp (pt_cmpR op_eq (pe_ix (ix_tupK K rfl) (pv 1) pe_int (fun _ _ => rfl)) pe_str (nomark _)) (pe_op op_mulW (pe_ix (ix_tupK K rfl) (pv 1) pe_int (fun _ _ => rfl)) (pe_c C__law_executed hr (by omega) (by rfl) (pa_cons (pe_ix (ix_tupK K rfl) (pv 1) pe_int (fun _ _ => rfl)) pa_nil))) pe_int))) pa_nil)))), ?_⟩
      dsimp only [tNext, tSeq, tRet, tCB, tCons, tNil]
      refine lcIvL (K := K) exI (fun R r => ⟨_, rfl, r⟩) hs hI (by omega) (fun _ => rfl) (fun t htm x H2 s2 hx R r => ?_) fun D H2 nD s2 hD => ⟨D, b.map exI, rfl, SqL.of hD, by rw [ex_sum]; exact q H2 s2⟩
      rcases hx.inv with ⟨c, n, rfl, ht, rfl⟩ | ⟨c, n, rfl, ht, rfl⟩ | ⟨c, n, y, bb, rfl, ht, hy, rfl⟩
      · refine ⟨_, rfl, c, _, 0, _, rfl, rfl, ht, rfl, rfl, _, rfl, iteN v_sr ?_⟩
        have := r H2 (Same.refl _)
        rw [exI] at this
        exact this
      · refine ⟨_, rfl, c, _, 0, _, rfl, rfl, ht, rfl, rfl, _, rfl, iteN v_tr ?_⟩
        have := r H2 (Same.refl _)
        rw [exI] at this
        exact this
      · have hdi := dpP_mem htm
        rw [dpI] at hdi
        have wi := WP_mem hw htm
        rw [WI] at wi
        refine ⟨_, rfl, c, _, 0, _, rfl, rfl, ht, rfl, rfl, _, rfl, iteS rfl ?_⟩
        refine ⟨_, rfl, c, _, 1, _, rfl, rfl, ht, rfl, _, rfl, c, _, 2, _, rfl, rfl, ht, rfl, y, bb, rfl, hy, by omega, by omega, wi.2.2, wi.2.1, fun H3 s3 => ?_⟩
        refine ⟨n, exP bb, rfl, rfl, wide_mul (a := 101) (b := 331) (Nat.lt_of_le_of_lt wi.1 (by decide +kernel)) (ex_lt (k := k) (by omega) (by omega) wi.2.2 wi.2.1) (by decide) (by decide) (by decide), ?_⟩
        have := r H3 s3
        rw [exI] at this
        exact this
    · refine ⟨_, (pss_one (ps_ret (pe_callB (cr_sum rfl) (by rfl) B.sum (by decide +kernel) (pa_cons (pe_lc (own := [("_law_part", 1)]) (by rfl) nd (pi_tup (pv 0)) (blkOk_by (N := ["_law_program", "_law_part"]) (sc := defScope s__law_executed) (own := [("_law_part", 1)]) (by decide +kernel)) (fun _ _ _ _ _ => (pg_name (i := 1) nd rfl (.inl rfl))) (fun _ _ _ _ _ => pts_nil) (fun _ _ _ _ _ => (pe_ifExp (pt_cmpR op_eq (pe_ix (ix_tupK K rfl) (pv 1) pe_int (fun _ _ => rfl)) pe_str (nomark _)) (pe_op op_mulW (pe_ix (ix_tupK K rfl) (pv 1) pe_int (fun _ _ => rfl)) (pe_c C__law_executed hr (by omega) (by rfl) (pa_cons (pe_ix (ix_tupK K rfl) (pv 1) pe_int (fun _ _ => rfl)) pa_nil))) pe_int))) pa_nil)))), ?_⟩
      dsimp only [tNext, tSeq, tRet, tCB, tCons, tNil]
      refine lcIvT (K := K) exI (fun R r => ⟨_, rfl, r⟩) hs hI (by omega) (fun _ => rfl) (fun t htm x H2 s2 hx R r => ?_) fun D H2 nD s2 hD => ⟨D, b.map exI, rfl, SqL.of hD, by rw [ex_sum]; exact q H2 s2⟩
      rcases hx.inv with ⟨c, n, rfl, ht, rfl⟩ | ⟨c, n, rfl, ht, rfl⟩ | ⟨c, n, y, bb, rfl, ht, hy, rfl⟩
      · refine ⟨_, rfl, c, _, 0, _, rfl, rfl, ht, rfl, rfl, _, rfl, iteN v_sr ?_⟩
        have := r H2 (Same.refl _)
        rw [exI] at this
        exact this
      · refine ⟨_, rfl, c, _, 0, _, rfl, rfl, ht, rfl, rfl, _, rfl, iteN v_tr ?_⟩
        have := r H2 (Same.refl _)
        rw [exI] at this
        exact this
      · have hdi := dpP_mem htm
        rw [dpI] at hdi
        have wi := WP_mem hw htm
        rw [WI] at wi
        refine ⟨_, rfl, c, _, 0, _, rfl, rfl, ht, rfl, rfl, _, rfl, iteS rfl ?_⟩
        refine ⟨_, rfl, c, _, 1, _, rfl, rfl, ht, rfl, _, rfl, c, _, 2, _, rfl, rfl, ht, rfl, y, bb, rfl, hy, by omega, by omega, wi.2.2, wi.2.1, fun H3 s3 => ?_⟩
        refine ⟨n, exP bb, rfl, rfl, wide_mul (a := 101) (b := 331) (Nat.lt_of_le_of_lt wi.1 (by decide +kernel)) (ex_lt (k := k) (by omega) (by omega) wi.2.2 wi.2.1) (by decide) (by decide) (by decide), ?_⟩
        have := r H3 s3
        rw [exI] at this
        exact this
theorem sc__law_full_program : FnScope ["_law_pen_here", "_law_body", "_law_k", "_law_cuts", "_law_parts", "_law_rounds", "_law_found"] ["_law_pen_here"] (defScope s__law_full_program) := ⟨rfl, rfl, rfl, by decide +kernel, rfl, by decide +kernel, by decide +kernel⟩
theorem ints_of : ∀ {xs : List V} {R : Int → Prop}, (∀ v ∈ xs, ∃ r, v = V.int r ∧ R r) → ∃ ns : List Int, xs = ns.map V.int ∧ ∀ r ∈ ns, R r
  | [], _, _ => ⟨[], rfl, fun r h => absurd h List.not_mem_nil⟩
  | x :: xs, R, h => by
    obtain ⟨r, rfl, hr⟩ := h x List.mem_cons_self
    obtain ⟨ns, rfl, hn⟩ := ints_of (xs := xs) fun v hv => h v (List.mem_cons_of_mem _ hv)
    exact ⟨r :: ns, rfl, fun z hz => (List.mem_cons.mp hz).elim (fun e => e ▸ hr) (hn z)⟩
def PartOk (K : PySem.W.Frag) (H : Hp) (v : V) : Prop := ∃ q ys b, v = .ref q ∧ H q = some (.lst ys) ∧ FIs K H ys b ∧ Flat b 95 (10 ^ 30)
theorem FIs.take {H : Hp} : ∀ {xs : List V} {b : List Ins} (n : Nat), FIs K H xs b → FIs K H (xs.take n) (b.take n)
  | _, _, 0, _ => .nil
  | _, _, n + 1, .nil => .nil
  | _, _, n + 1, .cons r q => .cons r (FIs.take n q)
theorem FIs.drop {H : Hp} : ∀ {xs : List V} {b : List Ins} (n : Nat), FIs K H xs b → FIs K H (xs.drop n) (b.drop n)
  | _, _, 0, h => h
  | _, _, n + 1, .nil => .nil
  | _, _, n + 1, .cons r q => FIs.drop n q
theorem Flat.sub {b b' : List Ins} {N R : Nat} (h : Flat b N R) (hl : b'.length ≤ b.length) (hs : ∀ i ∈ b', i ∈ b) : Flat b' N R := ⟨Nat.le_trans hl h.len, fun i hi => h.flat i (hs i hi), fun i hi => h.cnt i (hs i hi)⟩
theorem top_at {H : Hp} {b : Addr} (nb : H b = none) (o : HO) : upd H b o b = some o := upd_same
theorem five {α : Type} {xs : List α} (h : xs.length = 5) : ∃ a b c d e, xs = [a, b, c, d, e] := by
  match xs, h with
  | [a, b, c, d, e], _ => exact ⟨a, b, c, d, e, rfl⟩
theorem nine {α : Type} {xs : List α} (h : xs.length = 9) : ∃ a b c d e f g i j, xs = [a, b, c, d, e, f, g, i, j] := by
  match xs, h with
  | [a, b, c, d, e, f, g, i, j], _ => exact ⟨a, b, c, d, e, f, g, i, j, rfl⟩
theorem ok__law_full_program {f : Addr} {fd : FuncData} (F : Fun K "_law_full_program" "_law_full_program" s__law_full_program f fd) (B : Blt mg) (C__law_draw : Cal P w K mg base 1 "_law_draw" sp__law_draw) (C__law_pick : Cal P w K mg base 2 "_law_pick" sp__law_pick) (C__law_integer : Cal P w K mg base 2 "_law_integer" sp__law_integer) : FnOk P w K mg base CX0 3 f fd ["_law_pen_here"] (sp__law_full_programR K) := by
  refine F.ok sc__law_full_program (fun vs H Q E h => ?_) (fun cdv A outer s H vs Q E hr h => ?_)
  · obtain ⟨p, c, n, rfl, _⟩ := h
    rfl
  · obtain ⟨p, c, n, rfl, pen, hn, k⟩ := h
    have nd := sc__law_full_program.nd
    refine ⟨_, (pss_cons (ps_set (i := 1) nd rfl (.inr rfl) (pe_lst pa_nil))
    (pss_cons (ps_for PassesOwn.never rfl (pi_range1 (by rfl) B.range (pa_cons pe_int pa_nil)) (pg_name (i := 2) nd rfl (.inl rfl))
      (pss_one (ps_expr (pe_bm PySem.F.plainAttrs_list PySem.F.slot_list_append PySem.F.type_list_append mt_append (pv 1) (pa_cons (pe_tup (pa_cons (pe_c C__law_pick hr (by decide) (by rfl) (pa_cons (pv 0) (pa_cons (pe_lst (pa_cons pe_str (pa_cons pe_str pa_nil))) pa_nil))) (pa_cons (pe_c C__law_integer hr (by decide) (by rfl) (pa_cons (pv 0) (pa_cons (pe_c C__law_pick hr (by decide) (by rfl) (pa_cons (pv 0) (pa_cons (pe_lst (pa_cons pe_int (pa_cons pe_int (pa_cons (pe_op op_pow pe_int pe_int) pa_nil)))) pa_nil))) pa_nil))) pa_nil))) pa_nil)))))
    (pss_cons (ps_set (i := 3) nd rfl (.inr rfl) (pe_op op_cat (pe_op op_cat (pe_lst (pa_cons pe_int pa_nil)) (pe_callB cr_sortedI (by rfl) B.sorted (by decide +kernel) (pa_cons (pe_lc (own := [("_law_k", 2)]) (by rfl) nd (pi_range1 (by rfl) B.range (pa_cons pe_int pa_nil)) (blkOk_by (N := ["_law_pen_here", "_law_body", "_law_k", "_law_cuts", "_law_parts", "_law_rounds", "_law_found"]) (sc := defScope s__law_full_program) (own := [("_law_k", 2)]) (by decide +kernel)) (fun _ _ _ _ _ => (pg_name (i := 2) nd rfl (.inl rfl))) (fun _ _ _ _ _ => pts_nil) (fun _ _ _ _ _ => (pe_c C__law_draw hr (by decide) (by rfl) (pa_cons (pv 0) (pa_cons pe_int pa_nil))))) pa_nil))) (pe_lst (pa_cons pe_int pa_nil))))
    (pss_cons (ps_setLc (i := 4) (own := [("_law_k", 2)]) (by rfl) nd rfl rfl (sw_true rfl rfl rfl (by decide +kernel)) (pi_range1 (by rfl) B.range (pa_cons pe_int pa_nil)) (blkOk_by (N := ["_law_pen_here", "_law_body", "_law_k", "_law_cuts", "_law_parts", "_law_rounds", "_law_found"]) (sc := defScope s__law_full_program) (own := [("_law_k", 2)]) (by decide +kernel)) (fun _ _ _ _ _ => (pg_name (i := 2) nd rfl (.inl rfl))) (fun _ _ _ _ _ => pts_nil) (fun _ _ _ _ _ => (pe_slice (sl_listK K rfl) (pv 1) (po_some (pe_ix (ix_listK K rfl) (pv 3) (pv 2) (fun _ _ => rfl))) (po_some (pe_ix (ix_listK K rfl) (pv 3) (pe_op op_add (pv 2) pe_int) (fun _ _ => rfl))))))
    (pss_cons (ps_setLc (i := 5) (own := [("_law_k", 2)]) (by rfl) nd rfl rfl (sw_true rfl rfl rfl (by decide +kernel)) (pi_range1 (by rfl) B.range (pa_cons pe_int pa_nil)) (blkOk_by (N := ["_law_pen_here", "_law_body", "_law_k", "_law_cuts", "_law_parts", "_law_rounds", "_law_found"]) (sc := defScope s__law_full_program) (own := [("_law_k", 2)]) (by decide +kernel)) (fun _ _ _ _ _ => (pg_name (i := 2) nd rfl (.inl rfl))) (fun _ _ _ _ _ => pts_nil) (fun _ _ _ _ _ => (pe_c C__law_draw hr (by decide) (by rfl) (pa_cons (pv 0) (pa_cons (pe_c C__law_pick hr (by decide) (by rfl) (pa_cons (pv 0) (pa_cons (pe_lst (pa_cons pe_int (pa_cons (pe_op op_pow pe_int pe_int) (pa_cons (pe_op op_add (pe_op op_pow pe_int pe_int) pe_int) pa_nil)))) pa_nil))) pa_nil)))))
    (pss_cons (ps_set (i := 6) nd rfl (.inl rfl) (pe_op op_cat (pe_op op_cat (pe_ix ix_list (pv 4) pe_int (fun _ _ => rfl)) (pe_lst (pa_cons (pe_tup (pa_cons pe_str (pa_cons (pe_ix ix_list (pv 5) pe_int (fun _ _ => rfl)) (pa_cons (pe_op op_cat (pe_op op_cat (pe_ix ix_list (pv 4) pe_int (fun _ _ => rfl)) (pe_lst (pa_cons (pe_tup (pa_cons pe_str (pa_cons (pe_ix ix_list (pv 5) pe_int (fun _ _ => rfl)) (pa_cons (pe_ix ix_list (pv 4) pe_int (fun _ _ => rfl)) pa_nil)))) pa_nil))) (pe_ix ix_list (pv 4) pe_int (fun _ _ => rfl))) pa_nil)))) pa_nil))) (pe_ix ix_list (pv 4) pe_int (fun _ _ => rfl))))
    (pss_cons (ps_set (i := 6) nd rfl (.inl rfl) (pe_op op_cat (pv 6) (pe_lst (pa_cons (pe_tup (pa_cons pe_str (pa_cons (pe_ix ix_list (pv 5) pe_int (fun _ _ => rfl)) (pa_cons (pe_op op_cat (pe_ix ix_list (pv 4) pe_int (fun _ _ => rfl)) (pe_lst (pa_cons (pe_tup (pa_cons pe_str (pa_cons (pe_ix ix_list (pv 5) pe_int (fun _ _ => rfl)) (pa_cons (pe_ix ix_list (pv 4) pe_int (fun _ _ => rfl)) pa_nil)))) pa_nil))) pa_nil)))) pa_nil))))
    (pss_one (ps_ret (pe_op op_cat (pe_op op_cat (pv 6) (pe_ix ix_list (pv 4) pe_int (fun _ _ => rfl))) (pe_lst (pa_cons (pe_tup (pa_cons pe_str (pa_cons (pe_ix ix_list (pv 5) pe_int (fun _ _ => rfl)) (pa_cons (pe_ix ix_list (pv 4) pe_int (fun _ _ => rfl)) pa_nil)))) pa_nil)))))))))))), ?_⟩
    refine ⟨Nat.zero_le _, fun D nD => ?_⟩
    have s1 : Same H (upd H D (.lst [])) := same_new nD
    have npD : D ≠ p := pen.np nD
    have ncD : D ≠ c := pen.nc nD
    refine ⟨95, rfl, by decide, by decide, for_range (lo := 0) (n := 95) (fun i σ H2 => ∃ (xs : List V) (b : List Ins) (y : Option V), σ = [some (.ref p), some (.ref D), y, none, none, none, none] ∧ Kp p H H2 ∧ PenAt H2 p c (n + 3 * i) ∧ H2 D = some (.lst xs) ∧ FIs K H2 xs b ∧ Flat b i (10 ^ 30)) ?_ ?_ ?_⟩
    · exact ⟨[], [], none, rfl, Same.kp s1, pen.same s1, upd_same, .nil, Nat.le_refl _, fun i h => absurd h List.not_mem_nil, fun i h => absurd h List.not_mem_nil⟩
    · rintro i σ H2 hi ⟨xs, b, y, rfl, k2, pen2, hD2, hF, hfl⟩
      have hxl : xs.length ≤ i := by rw [hF.len]; exact hfl.len
      refine ⟨_, rfl, .inl ⟨rfl, _, SqL.of hD2⟩, _, rfl, sl_of (show 2 ≤ 1000000 by decide), fun o1 no1 => ?_⟩
      have z1 := same_new no1 (o := HO.lst [V.str "step", V.str "turn"])
      refine ⟨p, c, o1, _, _, rfl, pen2.same z1, by omega, upd_same, (show 0 < 2 by decide), (show 2 ≤ 100000 by decide), fun wd H3 hwd k3 pen3 => ?_⟩
      refine ⟨_, rfl, _, rfl, 10, 30, rfl, rfl, ⟨by decide, by decide, by decide⟩, sl_of (show 3 ≤ 1000000 by decide), fun o2 no2 => ?_⟩
      have z2 := same_new no2 (o := HO.lst [V.int 1, V.int 9, V.int (10 ^ 30)])
      refine ⟨p, c, o2, _, _, rfl, pen3.same z2, by omega, upd_same, (show 0 < 3 by decide), (show 3 ≤ 100000 by decide), fun mv H4 hmv k4 pen4 => ?_⟩
      obtain ⟨mc, rfl, hmc0, hmc, hmc9⟩ := mem_ints (ns := [1, 9, 10 ^ 30]) (R := fun x => 0 ≤ x ∧ x.natAbs ≤ 10 ^ 30 ∧ x.natAbs < 10 ^ 90) hmv (by decide +kernel)
      refine ⟨p, c, mc, _, rfl, hmc0, hmc9, pen4, by omega, fun ct H5 hct k5 pen5 => ?_⟩
      refine ⟨sl_of (show 2 ≤ 1000000 by decide), fun t nt => ?_⟩
      have k25 : Kp p H2 H5 := (Same.kp z1).trans (k3.trans ((Same.kp z2).trans (k4.trans k5)))
      have hD5 : H5 D = some (.lst xs) := k25 _ _ npD hD2
      have z3 := same_new nt (o := HO.tup [wd, V.int ct])
      have hD6 := z3 _ _ hD5
      refine ⟨D, xs, _, rfl, rfl, hD6, sl_lt (by omega), ?_⟩
      have t2 : Tp (upd H5 t (HO.tup [wd, V.int ct])) (upd (upd H5 t (HO.tup [wd, V.int ct])) D (.lst (xs ++ [.ref t]))) := tp_lst hD6
      obtain ⟨it, hit, hitf, hitc⟩ : ∃ it, FI K (upd H5 t (HO.tup [wd, V.int ct])) (.ref t) it ∧ isFlat it ∧ (cntOf it).natAbs ≤ 10 ^ 30 := by
        rcases List.mem_cons.mp hwd with e | hwd
        · subst e
          exact ⟨.step ct, .inl ⟨t, ct, rfl, SqT.of upd_same, rfl⟩, trivial, Nat.le_trans hct hmc⟩
        rcases List.mem_cons.mp hwd with e | hwd
        · subst e
          exact ⟨.turn ct, .inr ⟨t, ct, rfl, SqT.of upd_same, rfl⟩, trivial, Nat.le_trans hct hmc⟩
        exact absurd hwd List.not_mem_nil
      refine ⟨xs ++ [.ref t], b ++ [it], _, rfl, fun x o nx ex => ?_, ?_, upd_same, FIs.snoc (hF.tp ((pen2.tp k25).trans ((Same.tp z3).trans t2))) (hit.tp t2), ?_, fun j hj => ?_, fun j hj => ?_⟩
      · rw [upd_ne (ne_of_none ex nD)]
        have ex5 := k25 _ _ nx (k2 _ _ nx ex)
        rw [upd_ne (ne_of_none ex5 nt)]
        exact ex5
      · exact ((pen5.same z3).mono (by omega)).upd npD ncD
      · rw [List.length_append]
        have := hfl.len
        show b.length + 1 ≤ i + 1
        omega
      · rcases List.mem_append.mp hj with h | h
        · exact hfl.flat j h
        · cases List.mem_singleton.mp h
          exact hitf
      · rcases List.mem_append.mp hj with h | h
        · exact hfl.cnt j h
        · cases List.mem_singleton.mp h
          exact hitc
    rintro σ H2 ⟨xs, b, y, rfl, k2, pen2, hD2, hF, hfl⟩
    have hxl : xs.length ≤ 95 := by rw [hF.len]; exact hfl.len
    -- the cuts
    refine ⟨sl_of (show 1 ≤ 1000000 by decide), fun u1 nu1 => ?_⟩
    have y1 := same_new nu1 (o := HO.lst [V.int 0])
    dsimp only [tNext, tSeq, tCB, tCons, tNil, tOp]
    refine lcPen (K := K) (p := p) (c := c) (fun H v => ∃ r : Int, v = V.int r ∧ True) (fun _ h => h) 8 rfl (n + 285) 1 (by decide) (fun _ => rfl) (pen2.same y1) (fun m hm0 H3 k3 pen3 S z => ?_) fun D1 xs1 H3 hl1 hD1 hR1 k3 pen3 => ?_
    · exact ⟨_, rfl, p, c, 96, _, rfl, by decide, by decide, pen3, by omega, fun r H4 _ _ k4 pen4 => z (.int r) H4 k4 (pen4.mono (by omega)) ⟨r, rfl, trivial⟩⟩
    obtain ⟨ns, rfl, _⟩ := ints_of hR1
    refine ⟨D1, ns, rfl, SqL.of hD1, fun ns' u2 pm _ nu2 => ?_⟩
    have y2 := same_new nu2 (o := HO.lst (ns'.map V.int))
    have hns : ns'.length = 8 := by
      rw [pm.length_eq]
      rw [List.length_map] at hl1
      exact hl1
    refine ⟨u1, u2, _, _, rfl, rfl, y2 _ _ (kp_lst (pen2.same y1) k3 upd_same), upd_same, sl_of (show 1 + (ns'.map V.int).length ≤ 1000000 by rw [List.length_map]; omega), fun u3 nu3 => ?_⟩
    have y3 := same_new nu3 (o := HO.lst ([V.int 0] ++ ns'.map V.int))
    refine ⟨sl_of (show 1 ≤ 1000000 by decide), fun u4 nu4 => ?_⟩
    have y4 := same_new nu4 (o := HO.lst [V.int 95])
    refine ⟨u3, u4, _, _, rfl, rfl, y4 _ _ upd_same, upd_same, sl_of (show ([V.int 0] ++ ns'.map V.int).length + 1 ≤ 1000000 by rw [List.length_append, List.length_map, hns]; decide), fun Cu nCu => ?_⟩
    have y5 := same_new nCu (o := HO.lst (([V.int 0] ++ ns'.map V.int) ++ [V.int 95]))
    have S1 := y2.trans (y3.trans (y4.trans y5))
    have pen4 := pen3.same S1
    have ecut : ([V.int 0] ++ ns'.map V.int) ++ [V.int 95] = (0 :: (ns' ++ [95])).map V.int := by
      rw [List.map_cons, List.map_append]
      rfl
    have hCu := (top_at nCu (HO.lst (([V.int 0] ++ ns'.map V.int) ++ [V.int 95]))).trans (congrArg (fun l => some (HO.lst l)) ecut)
    have hcl : ((0 :: (ns' ++ [95]) : List Int)).length = 10 := by
      rw [List.length_cons, List.length_append, hns]
      rfl
    have k23 : Kp p H2 _ := (Same.kp y1).trans (k3.trans (Same.kp S1))
    have hD4 := kp_lst pen2 k23 hD2
    have hF4 := hF.tp (pen2.tp k23)
    generalize upd (upd (upd (upd H3 u2 (HO.lst (ns'.map V.int))) u3 (HO.lst ([V.int 0] ++ ns'.map V.int))) u4 (HO.lst [V.int 95])) Cu (HO.lst (([V.int 0] ++ ns'.map V.int) ++ [V.int 95])) = H4 at S1 pen4 hCu k23 hD4 hF4
    generalize (0 :: (ns' ++ [95]) : List Int) = cu at hCu hcl
    -- the parts
    refine ⟨9, rfl, by decide, by decide, fun Pt nPt => lc_range (lo := 0) (n := 9) (fun m H5 => ∃ acc, H5 Pt = some (.lst acc) ∧ acc.length = m ∧ Same H4 H5 ∧ ∀ v ∈ acc, ∃ q ys b', v = .ref q ∧ q ≠ Pt ∧ H5 q = some (.lst ys) ∧ FIs K H5 ys b' ∧ Flat b' 95 (10 ^ 30)) ⟨[], upd_same, rfl, same_new nPt, fun v h => absurd h List.not_mem_nil⟩ ?_ ?_⟩
    · rintro m H5 hm ⟨acc, hP5, hal, s5, hA⟩
      refine ⟨rfl, ?_⟩
      dsimp only [tYes]
      rw [if_pos rfl]
      have hD5 := s5 _ _ hD4
      have hC5 := s5 _ _ hCu
      have e0 : (0 + (m : Int)) = (m : Int) := by omega
      rw [e0]
      refine ⟨_, rfl, _, rfl, _, rfl, Cu, _, (m : Int), _, rfl, rfl, SqL.of hC5, atI_nat (List.getElem?_eq_getElem (by rw [List.length_map]; omega)), ?_⟩
      rw [List.getElem_map]
      refine ⟨_, rfl, _, rfl, _, rfl, (m : Int), 1, rfl, rfl, Cu, _, ((m + 1 : Nat) : Int), _, rfl, rfl, SqL.of hC5, atI_nat (List.getElem?_eq_getElem (by rw [List.length_map]; omega)), ?_⟩
      rw [List.getElem_map]
      refine ⟨_, rfl, D, xs, rfl, SqL.of hD5, fun q nq => ?_⟩
      have w1 := same_new nq (o := HO.lst (cutV xs (some cu[m]) (some cu[m + 1])))
      have hP6 := w1 _ _ hP5
      have nqP : q ≠ Pt := fun z => by rw [z, hP5] at nq; cases nq
      have ct : ∀ (i j : Nat), FIs K H5 ((xs.drop i).take j) ((b.drop i).take j) ∧ Flat ((b.drop i).take j) 95 (10 ^ 30) := fun i j => ⟨((hF4.tp (Same.tp s5)).drop i).take j, hfl.sub (by rw [List.length_take, List.length_drop]; omega) fun x hx => List.mem_of_mem_drop (List.mem_of_mem_take hx)⟩
      refine ⟨acc, hP6, sl_lt (by omega), acc ++ [.ref q], upd_same, by rw [List.length_append, hal]; rfl, same_mut (s5.trans w1) nPt, fun v hv => ?_⟩
      have t2 : Tp (upd H5 q (HO.lst (cutV xs (some cu[m]) (some cu[m + 1])))) (upd (upd H5 q (HO.lst (cutV xs (some cu[m]) (some cu[m + 1])))) Pt (.lst (acc ++ [.ref q]))) := tp_lst hP6
      rcases List.mem_append.mp hv with h | h
      · obtain ⟨q', ys, b', e, h1, h2, h3, h4⟩ := hA v h
        exact ⟨q', ys, b', e, h1, by rw [upd_ne h1]; exact w1 _ _ h2, h3.tp ((Same.tp w1).trans t2), h4⟩
      · cases List.mem_singleton.mp h
        exact ⟨q, _, _, rfl, nqP, by rw [upd_ne nqP, upd_same]; rfl, (ct _ _).1.tp ((Same.tp w1).trans t2), (ct _ _).2⟩
    rintro H5 ⟨acc, hP5, hal, s5, hA⟩
    have pen5 := pen4.same s5
    obtain ⟨v0, v1, v2, v3, v4, v5, v6, v7, v8, rfl⟩ := nine hal
    -- the rounds
    dsimp only [tNext, tSeq, gName_app]
    refine lcPen (K := K) (p := p) (c := c) (fun H v => ∃ r : Int, v = V.int r ∧ r.natAbs ≤ 2 ^ 100 ∧ 0 ≤ r ∧ r ≤ 10 ^ 31) (fun _ h => h) 5 rfl (n + 285 + 8) 2 (by decide) (fun _ => rfl) pen5 (fun m hm0 H6 k6 pen6 S z => ?_) fun Rl rs H9 hl9 hRl hRs k6 pen9 => ?_
    · refine ⟨_, rfl, _, rfl, 10, 6, rfl, rfl, ⟨by decide, by decide, by decide⟩, 10, 30, rfl, rfl, ⟨by decide, by decide, by decide⟩, _, 1, rfl, rfl, sl_of (show 3 ≤ 1000000 by decide), fun o no => ?_⟩
      refine ⟨p, c, o, _, _, rfl, pen6.same (same_new no), by omega, upd_same, (show 0 < 3 by decide), (show 3 ≤ 100000 by decide), fun mv H7 hmv k7 pen7 => ?_⟩
      obtain ⟨mc, rfl, hmc0, hmc, hmc9⟩ := mem_ints (ns := [3, 10 ^ 6, 10 ^ 30 + 1]) (R := fun x => 0 < x ∧ x ≤ 10 ^ 30 + 1 ∧ x.natAbs < 2 ^ 400) hmv (by decide +kernel)
      exact ⟨p, c, mc, _, rfl, hmc0, hmc9, pen7, by omega, fun r H8 r0 r9 k8 pen8 => z (.int r) H8 ((Same.kp (same_new no)).trans (k7.trans k8)) (pen8.mono (by omega)) ⟨r, rfl, Nat.le_trans (show r.natAbs ≤ 10 ^ 30 by omega) (by decide +kernel), r0, by omega⟩⟩
    obtain ⟨w0, w1, w2, w3, w4, rfl⟩ := five hl9
    obtain ⟨r0, rfl, hr0, g0, u0⟩ := hRs w0 (by simp)
    obtain ⟨r1, rfl, hr1, g1, u1⟩ := hRs w1 (by simp)
    obtain ⟨r2, rfl, hr2, g2, u2⟩ := hRs w2 (by simp)
    obtain ⟨r3, rfl, hr3, g3, u3⟩ := hRs w3 (by simp)
    obtain ⟨r4, rfl, hr4, g4, u4⟩ := hRs w4 (by simp)
    have hten : (10 : Nat) ^ 30 ≤ 2 ^ 100 := by decide +kernel
    have part : ∀ v ∈ [v0, v1, v2, v3, v4, v5, v6, v7, v8], ∃ q ys b', v = .ref q ∧ H9 q = some (.lst ys) ∧ FIs K H9 ys b' ∧ PrR b' 0 95 (10 ^ 31) ∧ ys.length ≤ 95 := fun v hv => by
      obtain ⟨q, ys, b', e, _, h2, h3, h4⟩ := hA v hv
      exact ⟨q, ys, b', e, kp_lst pen5 k6 h2, h3.tp (pen5.tp k6), h4.okR hten (10 ^ 31), by rw [h3.len]; exact h4.len⟩
    have hPt := kp_lst pen5 k6 hP5
    obtain ⟨q0, y0, b0, rfl, hq0, hJ0, P0, m0⟩ := part v0 (by simp)
    obtain ⟨q1, y1, b1, rfl, hq1, hJ1, P1, m1⟩ := part v1 (by simp)
    obtain ⟨q2, y2, b2, rfl, hq2, hJ2, P2, m2⟩ := part v2 (by simp)
    obtain ⟨q3, y3, b3, rfl, hq3, hJ3, P3, m3⟩ := part v3 (by simp)
    obtain ⟨q4, y4, b4, rfl, hq4, hJ4, P4, m4⟩ := part v4 (by simp)
    obtain ⟨q5, y5, b5, rfl, hq5, hJ5, P5, m5⟩ := part v5 (by simp)
    obtain ⟨q6, y6, b6, rfl, hq6, hJ6, P6, m6⟩ := part v6 (by simp)
    obtain ⟨q7, y7, b7, rfl, hq7, hJ7, P7, m7⟩ := part v7 (by simp)
    obtain ⟨q8, y8, b8, rfl, hq8, hJ8, P8, m8⟩ := part v8 (by simp)
    have kk : Kp p H H9 := k2.trans (k23.trans ((Same.kp s5).trans k6))
    -- the first part
    refine ⟨_, rfl, Pt, _, 0, _, rfl, rfl, SqL.of ((Same.refl H9) _ _ hPt), rfl, _, rfl, Rl, _, 0, _, rfl, rfl, SqL.of ((Same.refl H9) _ _ hRl), rfl, _, rfl, Pt, _, 1, _, rfl, rfl, SqL.of ((Same.refl H9) _ _ hPt), rfl, _, rfl, Rl, _, 1, _, rfl, rfl, SqL.of ((Same.refl H9) _ _ hRl), rfl, _, rfl, Pt, _, 2, _, rfl, rfl, SqL.of ((Same.refl H9) _ _ hPt), rfl, sl_of (show 3 ≤ 1000000 by decide), fun t1 nt1 => ?_⟩
    have zt1 := same_new nt1 (o := HO.tup [V.str "repeat", V.int r1, V.ref q2])
    have Tt1 := zt1
    refine ⟨sl_of (show 1 ≤ 1000000 by decide), fun l1 nl1 => ?_⟩
    have zl1 := same_new nl1 (o := HO.lst [V.ref t1])
    have Tl1 := Tt1.trans zl1
    refine ⟨q1, l1, _, _, rfl, rfl, Tl1 _ _ hq1, upd_same, sl_of (show (y1).length + ([V.ref t1]).length ≤ 1000000 by simp only [List.length_append, List.length_cons, List.length_nil]; omega), fun c1 nc1 => ?_⟩
    have zc1 := same_new nc1 (o := HO.lst (y1 ++ [V.ref t1]))
    have Tc1 := Tl1.trans zc1
    refine ⟨_, rfl, Pt, _, 3, _, rfl, rfl, SqL.of (Tc1 _ _ hPt), rfl, c1, q3, _, _, rfl, rfl, upd_same, Tc1 _ _ hq3, sl_of (show ((y1 ++ [V.ref t1])).length + (y3).length ≤ 1000000 by simp only [List.length_append, List.length_cons, List.length_nil]; omega), fun c2 nc2 => ?_⟩
    have zc2 := same_new nc2 (o := HO.lst ((y1 ++ [V.ref t1]) ++ y3))
    have Tc2 := Tc1.trans zc2
    refine ⟨sl_of (show 3 ≤ 1000000 by decide), fun t2 nt2 => ?_⟩
    have zt2 := same_new nt2 (o := HO.tup [V.str "repeat", V.int r0, V.ref c2])
    have Tt2 := Tc2.trans zt2
    refine ⟨sl_of (show 1 ≤ 1000000 by decide), fun l2 nl2 => ?_⟩
    have zl2 := same_new nl2 (o := HO.lst [V.ref t2])
    have Tl2 := Tt2.trans zl2
    refine ⟨q0, l2, _, _, rfl, rfl, Tl2 _ _ hq0, upd_same, sl_of (show (y0).length + ([V.ref t2]).length ≤ 1000000 by simp only [List.length_append, List.length_cons, List.length_nil]; omega), fun c3 nc3 => ?_⟩
    have zc3 := same_new nc3 (o := HO.lst (y0 ++ [V.ref t2]))
    have Tc3 := Tl2.trans zc3
    refine ⟨_, rfl, Pt, _, 4, _, rfl, rfl, SqL.of (Tc3 _ _ hPt), rfl, c3, q4, _, _, rfl, rfl, upd_same, Tc3 _ _ hq4, sl_of (show ((y0 ++ [V.ref t2])).length + (y4).length ≤ 1000000 by simp only [List.length_append, List.length_cons, List.length_nil]; omega), fun c4 nc4 => ?_⟩
    have zc4 := same_new nc4 (o := HO.lst ((y0 ++ [V.ref t2]) ++ y4))
    have Tc4 := Tc3.trans zc4
    refine ⟨_, rfl, _, rfl, Rl, _, 2, _, rfl, rfl, SqL.of (Tc4 _ _ hRl), rfl, _, rfl, Pt, _, 5, _, rfl, rfl, SqL.of (Tc4 _ _ hPt), rfl, _, rfl, Rl, _, 3, _, rfl, rfl, SqL.of (Tc4 _ _ hRl), rfl, _, rfl, Pt, _, 6, _, rfl, rfl, SqL.of (Tc4 _ _ hPt), rfl, sl_of (show 3 ≤ 1000000 by decide), fun t3 nt3 => ?_⟩
    have zt3 := same_new nt3 (o := HO.tup [V.str "repeat", V.int r3, V.ref q6])
    have Tt3 := Tc4.trans zt3
    refine ⟨sl_of (show 1 ≤ 1000000 by decide), fun l3 nl3 => ?_⟩
    have zl3 := same_new nl3 (o := HO.lst [V.ref t3])
    have Tl3 := Tt3.trans zl3
    refine ⟨q5, l3, _, _, rfl, rfl, Tl3 _ _ hq5, upd_same, sl_of (show (y5).length + ([V.ref t3]).length ≤ 1000000 by simp only [List.length_append, List.length_cons, List.length_nil]; omega), fun c5 nc5 => ?_⟩
    have zc5 := same_new nc5 (o := HO.lst (y5 ++ [V.ref t3]))
    have Tc5 := Tl3.trans zc5
    refine ⟨sl_of (show 3 ≤ 1000000 by decide), fun t4 nt4 => ?_⟩
    have zt4 := same_new nt4 (o := HO.tup [V.str "repeat", V.int r2, V.ref c5])
    have Tt4 := Tc5.trans zt4
    refine ⟨sl_of (show 1 ≤ 1000000 by decide), fun l4 nl4 => ?_⟩
    have zl4 := same_new nl4 (o := HO.lst [V.ref t4])
    have Tl4 := Tt4.trans zl4
    refine ⟨c4, l4, _, _, rfl, rfl, ((((zt3.trans zl3).trans zc5).trans zt4).trans zl4) _ _ upd_same, upd_same, sl_of (show (((y0 ++ [V.ref t2]) ++ y4)).length + ([V.ref t4]).length ≤ 1000000 by simp only [List.length_append, List.length_cons, List.length_nil]; omega), fun c6 nc6 => ?_⟩
    have zc6 := same_new nc6 (o := HO.lst (((y0 ++ [V.ref t2]) ++ y4) ++ [V.ref t4]))
    have Tc6 := Tl4.trans zc6
    refine ⟨_, rfl, _, rfl, Pt, _, 7, _, rfl, rfl, SqL.of (Tc6 _ _ hPt), rfl, c6, q7, _, _, rfl, rfl, upd_same, Tc6 _ _ hq7, sl_of (show ((((y0 ++ [V.ref t2]) ++ y4) ++ [V.ref t4])).length + (y7).length ≤ 1000000 by simp only [List.length_append, List.length_cons, List.length_nil]; omega), fun c7 nc7 => ?_⟩
    have zc7 := same_new nc7 (o := HO.lst ((((y0 ++ [V.ref t2]) ++ y4) ++ [V.ref t4]) ++ y7))
    have Tc7 := Tc6.trans zc7
    refine ⟨_, rfl, Rl, _, 4, _, rfl, rfl, SqL.of (Tc7 _ _ hRl), rfl, _, rfl, Pt, _, 8, _, rfl, rfl, SqL.of (Tc7 _ _ hPt), rfl, sl_of (show 3 ≤ 1000000 by decide), fun t5 nt5 => ?_⟩
    have zt5 := same_new nt5 (o := HO.tup [V.str "repeat", V.int r4, V.ref q8])
    have Tt5 := Tc7.trans zt5
    refine ⟨sl_of (show 1 ≤ 1000000 by decide), fun l5 nl5 => ?_⟩
    have zl5 := same_new nl5 (o := HO.lst [V.ref t5])
    have Tl5 := Tt5.trans zl5
    refine ⟨c7, l5, _, _, rfl, rfl, (zt5.trans zl5) _ _ upd_same, upd_same, sl_of (show (((((y0 ++ [V.ref t2]) ++ y4) ++ [V.ref t4]) ++ y7)).length + ([V.ref t5]).length ≤ 1000000 by simp only [List.length_append, List.length_cons, List.length_nil]; omega), fun c8 nc8 => ?_⟩
    have zc8 := same_new nc8 (o := HO.lst (((((y0 ++ [V.ref t2]) ++ y4) ++ [V.ref t4]) ++ y7) ++ [V.ref t5]))
    have Tc8 := Tl5.trans zc8
    have J0 := (hJ0.ivs).same Tc8
    have J1 := (hJ1.ivs).same Tc8
    have J2 := (hJ2.ivs).same Tc8
    have J3 := (hJ3.ivs).same Tc8
    have J4 := (hJ4.ivs).same Tc8
    have J5 := (hJ5.ivs).same Tc8
    have J6 := (hJ6.ivs).same Tc8
    have J7 := (hJ7.ivs).same Tc8
    have J8 := (hJ8.ivs).same Tc8
    have I1 : IV K _ (V.ref t1) (.rep r1 b2) := iv_rep (SqT.of (((((((((((((((((zl1.trans zc1).trans zc2).trans zt2).trans zl2).trans zc3).trans zc4).trans zt3).trans zl3).trans zc5).trans zt4).trans zl4).trans zc6).trans zc7).trans zt5).trans zl5).trans zc8) _ _ (upd_same (o := HO.tup [V.str "repeat", V.int r1, V.ref q2])))) (pv_list (SqL.of (Tc8 _ _ hq2)) J2)
    have I2 : IV K _ (V.ref t2) (.rep r0 ((b1 ++ [.rep r1 b2]) ++ b3)) := iv_rep (SqT.of (((((((((((((zl2.trans zc3).trans zc4).trans zt3).trans zl3).trans zc5).trans zt4).trans zl4).trans zc6).trans zc7).trans zt5).trans zl5).trans zc8) _ _ (upd_same (o := HO.tup [V.str "repeat", V.int r0, V.ref c2])))) (pv_list (SqL.of ((((((((((((((zt2.trans zl2).trans zc3).trans zc4).trans zt3).trans zl3).trans zc5).trans zt4).trans zl4).trans zc6).trans zc7).trans zt5).trans zl5).trans zc8) _ _ upd_same)) (IVs.app (IVs.app J1 (.cons I1 .nil)) J3))
    have I3 : IV K _ (V.ref t3) (.rep r3 b6) := iv_rep (SqT.of (((((((((zl3.trans zc5).trans zt4).trans zl4).trans zc6).trans zc7).trans zt5).trans zl5).trans zc8) _ _ (upd_same (o := HO.tup [V.str "repeat", V.int r3, V.ref q6])))) (pv_list (SqL.of (Tc8 _ _ hq6)) J6)
    have I4 : IV K _ (V.ref t4) (.rep r2 (b5 ++ [.rep r3 b6])) := iv_rep (SqT.of ((((((zl4.trans zc6).trans zc7).trans zt5).trans zl5).trans zc8) _ _ (upd_same (o := HO.tup [V.str "repeat", V.int r2, V.ref c5])))) (pv_list (SqL.of (((((((zt4.trans zl4).trans zc6).trans zc7).trans zt5).trans zl5).trans zc8) _ _ upd_same)) (IVs.app J5 (.cons I3 .nil)))
    have I5 : IV K _ (V.ref t5) (.rep r4 b8) := iv_rep (SqT.of ((zl5.trans zc8) _ _ (upd_same (o := HO.tup [V.str "repeat", V.int r4, V.ref q8])))) (pv_list (SqL.of (Tc8 _ _ hq8)) J8)
    have JJ := IVs.app (IVs.app (IVs.app (IVs.app (IVs.app J0 (.cons I2 .nil)) J4) (.cons I4 .nil)) J7) (.cons I5 .nil)
    have O1 := ((P1.app (P2.rep (by decide) hr1 g1 u1)).app P3).rep (n := r0) (by decide) hr0 g0 u0
    have O2 := (P5.app (P6.rep (by decide) hr3 g3 u3)).rep (n := r2) (by decide) hr2 g2 u2
    exact k c8 _ _ _ (kk.trans (Same.kp Tc8)) ((pen9.same Tc8).mono (by omega)) upd_same JJ ((((((P0.app O1).app P4).app O2).app P7).app (P8.rep (by decide) hr4 g4 u4)).up (by decide) (by decide))
theorem sc__law_terms : FnScope ["_law_program", "_law_found", "_law_here", "_law_part", "_law_stride", "_law_factor", "_law_offset", "_law_rounds"] ["_law_program"] (defScope s__law_terms) := ⟨rfl, rfl, rfl, by decide +kernel, rfl, by decide +kernel, by decide +kernel⟩
theorem tvs_moved (here : Int) : ∀ (ts : List Tm) (x : Int), tvs (ts.map fun t => (⟨here + t.pl, t.co, t.rs⟩ : Tm)) x = tvs ts (x - here)
  | [], _ => rfl
  | t :: r, x => by
    have ih := tvs_moved here r x
    show t.co * wy t.rs (x - (here + t.pl)) + tvs (r.map fun t => (⟨here + t.pl, t.co, t.rs⟩ : Tm)) x = t.co * wy t.rs (x - here - t.pl) + tvs r (x - here)
    rw [ih, show x - (here + t.pl) = x - here - t.pl by omega]
theorem paired_map {α β : Type} {R : α → β → Prop} {g : α → β} (h : ∀ a, R a (g a)) : ∀ xs : List α, Paired R xs (xs.map g)
  | [] => .nil
  | a :: r => .cons (h a) (paired_map h r)
theorem tvs_grown (here c s : Int) (us : List Tm) (x : Int) : tvs (us.map fun t => (⟨here + t.pl, t.co, t.rs ++ [(c, s)]⟩ : Tm)) x = rsum (fun y => tvs us y) s c.toNat (x - here) := by
  have e : (us.map fun t => (⟨here + t.pl, t.co, t.rs ++ [(c, s)]⟩ : Tm)) = (us.map fun t => (⟨t.pl, t.co, t.rs ++ [(c, s)]⟩ : Tm)).map fun t => (⟨here + t.pl, t.co, t.rs⟩ : Tm) := by
    rw [List.map_map]
    rfl
  rw [e, tvs_moved, tvs_rep (n := c) (s := s) (paired_map (fun t => repd_pos (List.Perm.refl _)) us)]
theorem cat_pr {H : Hp} {x : V} {rs : Pol} {q u : Addr} {c s : Int} {Q : VK} (hx : TPol K H x rs) (hl : rs.length ≤ 100) (hu : SqT K H u [.ref q]) (hq : SqT K H q [.int c, .int s]) (k : ∀ v H', Same H H' → TPol K H' v (rs ++ [(c, s)]) → Q v H') : rCatA K x (.ref u) H Q := by
  obtain ⟨a, xs, rfl, hs, hP⟩ := hx
  refine cat_pol (c := u) hs hu (by rw [hP.len]; omega) (fun e => ?_) fun p np => ?_
  · subst e
    cases hP
    exact k _ _ (Same.refl H) ⟨u, _, rfl, hu, .cons ⟨q, rfl, hq⟩ .nil⟩
  · exact k _ _ (same_new np) ⟨p, _, rfl, SqT.of upd_same, Prs.tp (tp_new np) (hP.snoc ⟨q, rfl, hq⟩)⟩
theorem ok__law_terms (k : Nat) (C__law_terms : Cal P w K mg base (k + 3) "_law_terms" (sp__law_termsN K k)) {f : Addr} {fd : FuncData} (F : Fun K "_law_terms" "_law_terms" s__law_terms f fd) (B : Blt mg) (C__law_shift : Cal P w K mg base (3 + 0) "_law_shift" (sp__law_shift K 3)) : FnOk P w K mg base CX0 (k + 3 + 1) f fd ["_law_program"] (sp__law_termsN K (k + 1)) := by
  refine F.ok sc__law_terms (fun vs H Q E h => ?_) (fun cdv A outer s H vs Q E hr h => ?_)
  · obtain ⟨v, b, rfl, _⟩ := h
    rfl
  · obtain ⟨v, b, rfl, hv, hd, hk, hw, hn, hc, q⟩ := h
    have nd := sc__law_terms.nd
    obtain ⟨a, xs, rfl, hsq, hI⟩ := hv.inv
    have hlb : b.length ≤ 1024 := Nat.le_trans (len_cnP b) hc
    rcases hsq with hs | hs
    · refine ⟨_, (pss_cons (ps_par (i := 1) (j := 2) (by rfl) nd rfl rfl (by decide) rfl rfl (pa_cons (pe_lst pa_nil) (pa_cons pe_int pa_nil)) (by rfl))
    (pss_cons (ps_for PassesOwn.never rfl (pi_list (pv 0)) (pg_name (i := 3) nd rfl (.inl rfl))
      (pss_one (ps_if (pt_cmpR op_eq (pe_ix ix_tup (pv 3) pe_int (fun _ _ => rfl)) pe_str (nomark _))
      (pss_one (ps_set (i := 2) nd rfl (.inl rfl) (pe_op op_add (pv 2) (pe_ix ix_tup (pv 3) pe_int (fun _ _ => rfl)))))
      (pss_one (ps_if (pt_cmpR op_eq (pe_ix ix_tup (pv 3) pe_int (fun _ _ => rfl)) pe_str (nomark _))
      (pss_one (ps_expr (pe_bm PySem.F.plainAttrs_list PySem.F.slot_list_append PySem.F.type_list_append mt_append (pv 1) (pa_cons (pe_tup (pa_cons (pe_ix ix_tup (pv 3) pe_int (fun _ _ => rfl)) (pa_cons (pv 2) (pa_cons (pe_tup pa_nil) pa_nil)))) pa_nil))))
      (pss_one (ps_if (pt_cmpR op_gt (pe_ix ix_tup (pv 3) pe_int (fun _ _ => rfl)) pe_int (nomark _))
      (pss_cons (ps_set (i := 4) nd rfl (.inl rfl) (pe_c C__law_shift hr (by omega) (by rfl) (pa_cons (pe_ix ix_tup (pv 3) pe_int (fun _ _ => rfl)) pa_nil)))
    (pss_cons (ps_for PassesOwn.never rfl (pi_list (pe_c C__law_terms hr (by omega) (by rfl) (pa_cons (pe_ix ix_tup (pv 3) pe_int (fun _ _ => rfl)) pa_nil))) (pg_tup rfl (pgs_cons (pg_name (i := 5) nd rfl (.inl rfl)) (pgs_cons (pg_name (i := 6) nd rfl (.inl rfl)) (pgs_cons (pg_name (i := 7) nd rfl (.inl rfl)) pgs_nil))))
      (pss_one (ps_expr (pe_bm PySem.F.plainAttrs_list PySem.F.slot_list_append PySem.F.type_list_append mt_append (pv 1) (pa_cons (pe_tup (pa_cons (pv 5) (pa_cons (pe_op op_add (pv 2) (pv 6)) (pa_cons (pe_op op_catA (pv 7) (pe_tup (pa_cons (pe_tup (pa_cons (pe_ix ix_tup (pv 3) pe_int (fun _ _ => rfl)) (pa_cons (pv 4) pa_nil))) pa_nil))) pa_nil)))) pa_nil)))))
    (pss_one (ps_set (i := 2) nd rfl (.inl rfl) (pe_op op_add (pv 2) (pe_op op_mulW (pe_ix ix_tup (pv 3) pe_int (fun _ _ => rfl)) (pv 4)))))))
      pss_nil)))))))
    (pss_one (ps_ret (pv 1))))), ?_⟩
      refine ⟨Nat.zero_le _, fun D nD => ?_⟩
      have s1 := same_new nD (o := HO.lst [])
      refine ⟨_, _, rfl, _, rfl, a, rfl, ⟨_, same_l s1 hs⟩, for_list (K := K) (a := a) (xs := xs) (fun j σ H2 => ∃ (ys : List V) (ts : List Tm) (y3 y4 y5 y6 y7 : Option V), σ = [some (.ref a), some (.ref D), some (.int (shP (b.take j))), y3, y4, y5, y6, y7] ∧ Same H H2 ∧ H2 D = some (.lst ys) ∧ LTVs K H2 ys ts ∧ (∀ x, tvs ts x = seP (b.take j) x) ∧ (∀ t ∈ ts, LOk (k + 1) t) ∧ ts.length ≤ cnP (b.take j) ∧ tmN ts ≤ exP (b.take j)) ⟨[], [], none, none, none, none, none, by rw [List.take_zero, shP_nil]; rfl, s1, upd_same, .nil, fun x => by rw [List.take_zero, seP_nil]; rfl, fun t h => absurd h List.not_mem_nil, Nat.zero_le _, by rw [List.take_zero, exP_nil]; exact Int.le_refl _⟩ ?_ ?_ ?_⟩
      · rintro j σ H2 _ ⟨_, _, _, _, _, _, _, _, s2, _⟩
        exact same_l s2 hs
      · rintro j x σ H2 hj ⟨ys, ts, y3, y4, y5, y6, y7, rfl, s2, hD2, hT, hval, hok, hlen, hN⟩
        obtain ⟨i, hi, hx0⟩ := hI.get hj
        have hm := List.mem_of_getElem? hi
        have hcj := cnP_take' b j
        have hcs := cnP_snoc' hi
        have hcj1 := cnP_take' b (j + 1)
        have wi := WP_mem hw hm
        have hyl := hT.len
        rcases hx0.inv with ⟨e, c, rfl, ht0, rfl⟩ | ⟨e, c, rfl, ht0, rfl⟩ | ⟨e, c, y, bb, rfl, ht0, hy0, rfl⟩
        · have ht := same_t s2 ht0
          refine ⟨_, rfl, e, _, 0, _, rfl, rfl, ht, rfl, rfl, _, rfl, iteS rfl ?_⟩
          refine ⟨_, rfl, _, rfl, e, _, 1, _, rfl, rfl, ht, rfl, _, _, rfl, rfl, ys, ts, some (.ref e), y4, y5, y6, y7, ?_, s2, hD2, hT, fun x => ?_, hok, by omega, ?_⟩
          · rw [shP_snoc hi, shI]
            rfl
          · rw [seP_snoc hi, seI, Int.add_zero]
            exact hval x
          · rw [exP_snoc hi, exI]
            omega
        · have ht := same_t s2 ht0
          refine ⟨_, rfl, e, _, 0, _, rfl, rfl, ht, rfl, rfl, _, rfl, iteN v_ts ?_⟩
          refine ⟨_, rfl, e, _, 0, _, rfl, rfl, ht, rfl, rfl, _, rfl, iteS rfl ?_⟩
          refine ⟨_, rfl, .inl ⟨rfl, _, SqL.of hD2⟩, _, rfl, e, _, 1, _, rfl, rfl, ht, rfl, _, rfl, Nat.zero_le _, fun e0 ne0 => ?_⟩
          have z1 := same_new ne0 (o := HO.tup [])
          refine ⟨sl_of (show 3 ≤ 1000000 by decide), fun t0 nt0 => ?_⟩
          have z2 := same_new nt0 (o := HO.tup [V.int c, V.int (shP (b.take j)), V.ref e0])
          have hD4 := (z1.trans z2) _ _ hD2
          rw [WI] at wi
          rw [cnI] at hcs
          refine ⟨D, ys, _, rfl, rfl, hD4, sl_lt (by omega), ?_⟩
          have t3 : Tp (upd (upd H2 e0 (HO.tup [])) t0 (HO.tup [V.int c, V.int (shP (b.take j)), V.ref e0])) (upd (upd (upd H2 e0 (HO.tup [])) t0 (HO.tup [V.int c, V.int (shP (b.take j)), V.ref e0])) D (.lst (ys ++ [.ref t0]))) := tp_lst hD4
          have hnew : LTermV K (upd (upd H2 e0 (HO.tup [])) t0 (HO.tup [V.int c, V.int (shP (b.take j)), V.ref e0])) (.ref t0) ⟨shP (b.take j), c, []⟩ := ⟨t0, _, rfl, SqT.of upd_same, e0, [], rfl, same_t z2 (SqT.of upd_same), .nil⟩
          refine ⟨ys ++ [.ref t0], ts ++ [⟨shP (b.take j), c, []⟩], some (.ref e), y4, y5, y6, y7, ?_, same_mut (s2.trans (z1.trans z2)) nD, upd_same, LTVs.app (hT.tp ((Same.tp (z1.trans z2)).trans t3)) (.cons (hnew.tp t3) .nil), fun x => ?_, fun t h => ?_, ?_, ?_⟩
          · rw [shP_snoc hi, shI, Int.add_zero]
            rfl
          · rw [tvs_app, hval, seP_snoc hi, seI]
            congr 1
            show c * (if x - shP (b.take j) = 0 then 1 else 0) + 0 = _
            rw [Int.add_zero]
            by_cases hx : x - shP (b.take j) = 0
            · rw [if_pos hx, if_pos (by omega), Int.mul_one]
            · rw [if_neg hx, if_neg (by omega), Int.mul_zero]
          · rcases List.mem_append.mp h with z | z
            · exact hok t z
            · cases List.mem_singleton.mp z
              exact ⟨wi, by show 0 + 1 ≤ k + 1; omega, fun r hr => absurd hr List.not_mem_nil⟩
          · rw [List.length_append]
            show ts.length + 1 ≤ _
            omega
          · rw [exP_snoc hi, exI, tmN_app]
            show tmN ts + (1 + 0) ≤ _
            omega
        · have ht := same_t s2 ht0
          refine ⟨_, rfl, e, _, 0, _, rfl, rfl, ht, rfl, rfl, _, rfl, iteN v_rs ?_⟩
          refine ⟨_, rfl, e, _, 0, _, rfl, rfl, ht, rfl, rfl, _, rfl, iteN v_rt ?_⟩
          have hy2 := hy0.same s2
          have hni := NP_mem hn hm
          rw [NI] at hni
          rw [WI] at wi
          have hdi := dpP_mem hm
          rw [dpI] at hdi
          rw [cnI] at hcs
          have hcb : cnP bb ≤ 1024 := by omega
          refine ⟨_, rfl, e, _, 1, _, rfl, rfl, ht, rfl, c, 0, rfl, rfl, _, rfl, ite2 (fun hc0 => ?_) fun hc0 => ?_⟩
          · have hc1 : 0 < c := of_decide_eq_true hc0
            have hsb : (shP bb).natAbs ≤ 2 ^ 331 := Nat.le_of_lt (sh_lt (k := 3) (by omega) (by decide) wi.2.2 wi.2.1)
            refine ⟨_, rfl, e, _, 2, _, rfl, rfl, ht, rfl, y, bb, rfl, hy2, by omega, by decide, wi.2.2, wi.2.1, fun H3 s3 => ?_⟩
            refine ⟨_, rfl, e, _, 2, _, rfl, rfl, same_t s3 ht, rfl, y, bb, rfl, hy2.same s3, by omega, by omega, wi.2.2, hni.2, hcb, fun D2 zs us H4 s4 nD2 hD2' hZ hzv hzo hzl hzN => ?_⟩
            have hD4 := (s3.trans s4) _ _ hD2
            have neD : D ≠ D2 := ne_of_none (s3 _ _ hD2) nD2
            have hzl2 := hZ.len
            refine ⟨D2, rfl, ⟨_, SqL.of hD2'⟩, for_list (K := K) (a := D2) (xs := zs) (fun m σ H5 => ∃ (ws : List V) (y5 y6 y7 : Option V), σ = [some (.ref a), some (.ref D), some (.int (shP (b.take j))), some (.ref e), some (.int (shP bb)), y5, y6, y7] ∧ Same H H5 ∧ H5 D = some (.lst ws) ∧ H5 D2 = some (.lst zs) ∧ LTVs K H5 zs us ∧ LTVs K H5 ws (ts ++ (us.take m).map fun t => (⟨shP (b.take j) + t.pl, t.co, t.rs ++ [(c, shP bb)]⟩ : Tm))) ⟨ys, y5, y6, y7, rfl, s2.trans (s3.trans s4), hD4, hD2', hZ, by rw [List.take_zero, List.map_nil, List.append_nil]; exact hT.tp (Same.tp (s3.trans s4))⟩ ?_ ?_ ?_⟩
            · rintro m σ H5 _ ⟨_, _, _, _, _, _, _, h5, _⟩
              exact SqL.of h5
            · rintro m z σ H5 hmz ⟨ws, y5', y6', y7', rfl, s5, hD5, hE5, hZ5, hW5⟩
              obtain ⟨t, ht5, q5, xr, rfl, hq5, hxr⟩ := hZ5.get hmz
              have hto := hzo t (List.mem_of_getElem? ht5)
              have hwl := hW5.len
              have hmu : m < us.length := (List.getElem?_eq_some_iff.mp ht5).1
              rw [List.length_append, List.length_map, List.length_take] at hwl
              have htl := hto.len
              refine ⟨q5, _, rfl, hq5, rfl, _, _, rfl, _, _, rfl, _, _, rfl, rfl, ?_⟩
              refine ⟨_, rfl, .inl ⟨rfl, _, SqL.of hD5⟩, _, rfl, _, rfl, _, rfl, _, _, rfl, rfl, _, rfl, _, rfl, e, _, 1, _, rfl, rfl, same_t s5 ht0, rfl, _, rfl, sl_of (show 2 ≤ 1000000 by decide), fun p1 n1 => ?_⟩
              have w1 := same_new n1 (o := HO.tup [V.int c, V.int (shP bb)])
              refine ⟨sl_of (show 1 ≤ 1000000 by decide), fun p2 n2 => ?_⟩
              have w2 := same_new n2 (o := HO.tup [V.ref p1])
              refine cat_pr (hxr.tp (Same.tp (w1.trans w2))) (by omega) (SqT.of upd_same) (same_t w2 (SqT.of upd_same)) fun v6 H6 w3 hv6 => ?_
              refine ⟨sl_of (show 3 ≤ 1000000 by decide), fun t0 nt0 => ?_⟩
              have w4 := same_new nt0 (o := HO.tup [V.int t.co, V.int (shP (b.take j) + t.pl), v6])
              have W := w1.trans (w2.trans (w3.trans w4))
              have hD6 := W _ _ hD5
              refine ⟨D, ws, _, rfl, rfl, hD6, sl_lt (by omega), ?_⟩
              have t6 : Tp (upd H6 t0 (HO.tup [V.int t.co, V.int (shP (b.take j) + t.pl), v6])) (upd (upd H6 t0 (HO.tup [V.int t.co, V.int (shP (b.take j) + t.pl), v6])) D (.lst (ws ++ [.ref t0]))) := tp_lst hD6
              have hnew : LTermV K (upd H6 t0 (HO.tup [V.int t.co, V.int (shP (b.take j) + t.pl), v6])) (.ref t0) ⟨shP (b.take j) + t.pl, t.co, t.rs ++ [(c, shP bb)]⟩ := ⟨t0, _, rfl, SqT.of upd_same, hv6.tp (Same.tp w4)⟩
              refine ⟨ws ++ [.ref t0], some (.int t.co), some (.int t.pl), some xr, rfl, same_mut (s5.trans W) nD, upd_same, ?_, hZ5.tp ((Same.tp W).trans t6), ?_⟩
              · rw [upd_ne neD.symm]
                exact W _ _ hE5
              · rw [take_snoc ht5, List.map_append, ← List.append_assoc]
                exact LTVs.app (hW5.tp ((Same.tp W).trans t6)) (.cons (hnew.tp t6) .nil)
            · rintro σ H5 ⟨ws, y5', y6', y7', rfl, s5, hD5, hE5, hZ5, hW5⟩
              rw [hzl2, List.take_length] at hW5
              refine ⟨_, rfl, _, rfl, e, _, 1, _, rfl, rfl, same_t s5 ht0, rfl, _, rfl, c, shP bb, rfl, rfl, wide_mul (a := 101) (b := 332) (Nat.lt_of_le_of_lt wi.1 (by decide +kernel)) (Nat.lt_of_le_of_lt hsb (by decide +kernel)) (by decide) (by decide) (by decide), _, _, rfl, rfl, ws, _, some (.ref e), some (.int (shP bb)), y5', y6', y7', ?_, s5, hD5, hW5, fun x => ?_, fun t h => ?_, ?_, ?_⟩
              · rw [shP_snoc hi, shI]
                rfl
              · rw [tvs_app, hval, seP_snoc hi, seI, tvs_grown, rsum_congr hzv]
              · rcases List.mem_append.mp h with z | z
                · exact hok t z
                · obtain ⟨t0, ht0m, rfl⟩ := List.mem_map.mp z
                  have hto := hzo t0 ht0m
                  refine ⟨hto.co, ?_, fun r hr => ?_⟩
                  · show (t0.rs ++ [(c, shP bb)]).length + 1 ≤ k + 1
                    rw [List.length_append]
                    have := hto.len
                    show t0.rs.length + 1 + 1 ≤ k + 1
                    omega
                  · rcases List.mem_append.mp hr with g | g
                    · exact hto.rs r g
                    · cases List.mem_singleton.mp g
                      refine ⟨hc1, ?_, hsb⟩
                      show c ≤ 2 ^ 100
                      have := wi.1
                      omega
              · rw [List.length_append, List.length_map]
                omega
              · rw [exP_snoc hi, exI, tmN_app, tmN_grown]
                have := Int.mul_le_mul_of_nonneg_left hzN (by omega : (0 : Int) ≤ c)
                omega
          · have hc1 : c = 0 := by
              have : ¬ (0 < c) := fun z => hc0 (decide_eq_true z)
              have := hni.1
              omega
            refine ⟨ys, ts, some (.ref e), y4, y5, y6, y7, ?_, s2, hD2, hT, fun x => ?_, hok, by omega, ?_⟩
            · rw [shP_snoc hi, shI, hc1, Int.zero_mul, Int.add_zero]
              rfl
            · rw [seP_snoc hi, seI, hc1]
              show _ = _ + 0
              rw [Int.add_zero]
              exact hval x
            · rw [exP_snoc hi, exI, hc1, Int.zero_mul]
              omega
      · rintro σ H2 ⟨ys, ts, y3, y4, y5, y6, y7, rfl, s2, hD2, hT, hval, hok, hlen, hN⟩
        rw [hI.len, List.take_length] at *
        exact ⟨_, rfl, q D ys ts H2 s2 nD hD2 hT hval hok hlen hN⟩
    · refine ⟨_, (pss_cons (ps_par (i := 1) (j := 2) (by rfl) nd rfl rfl (by decide) rfl rfl (pa_cons (pe_lst pa_nil) (pa_cons pe_int pa_nil)) (by rfl))
    (pss_cons (ps_for PassesOwn.never rfl (pi_tup (pv 0)) (pg_name (i := 3) nd rfl (.inl rfl))
      (pss_one (ps_if (pt_cmpR op_eq (pe_ix ix_tup (pv 3) pe_int (fun _ _ => rfl)) pe_str (nomark _))
      (pss_one (ps_set (i := 2) nd rfl (.inl rfl) (pe_op op_add (pv 2) (pe_ix ix_tup (pv 3) pe_int (fun _ _ => rfl)))))
      (pss_one (ps_if (pt_cmpR op_eq (pe_ix ix_tup (pv 3) pe_int (fun _ _ => rfl)) pe_str (nomark _))
      (pss_one (ps_expr (pe_bm PySem.F.plainAttrs_list PySem.F.slot_list_append PySem.F.type_list_append mt_append (pv 1) (pa_cons (pe_tup (pa_cons (pe_ix ix_tup (pv 3) pe_int (fun _ _ => rfl)) (pa_cons (pv 2) (pa_cons (pe_tup pa_nil) pa_nil)))) pa_nil))))
      (pss_one (ps_if (pt_cmpR op_gt (pe_ix ix_tup (pv 3) pe_int (fun _ _ => rfl)) pe_int (nomark _))
      (pss_cons (ps_set (i := 4) nd rfl (.inl rfl) (pe_c C__law_shift hr (by omega) (by rfl) (pa_cons (pe_ix ix_tup (pv 3) pe_int (fun _ _ => rfl)) pa_nil)))
    (pss_cons (ps_for PassesOwn.never rfl (pi_list (pe_c C__law_terms hr (by omega) (by rfl) (pa_cons (pe_ix ix_tup (pv 3) pe_int (fun _ _ => rfl)) pa_nil))) (pg_tup rfl (pgs_cons (pg_name (i := 5) nd rfl (.inl rfl)) (pgs_cons (pg_name (i := 6) nd rfl (.inl rfl)) (pgs_cons (pg_name (i := 7) nd rfl (.inl rfl)) pgs_nil))))
      (pss_one (ps_expr (pe_bm PySem.F.plainAttrs_list PySem.F.slot_list_append PySem.F.type_list_append mt_append (pv 1) (pa_cons (pe_tup (pa_cons (pv 5) (pa_cons (pe_op op_add (pv 2) (pv 6)) (pa_cons (pe_op op_catA (pv 7) (pe_tup (pa_cons (pe_tup (pa_cons (pe_ix ix_tup (pv 3) pe_int (fun _ _ => rfl)) (pa_cons (pv 4) pa_nil))) pa_nil))) pa_nil)))) pa_nil)))))
    (pss_one (ps_set (i := 2) nd rfl (.inl rfl) (pe_op op_add (pv 2) (pe_op op_mulW (pe_ix ix_tup (pv 3) pe_int (fun _ _ => rfl)) (pv 4)))))))
      pss_nil)))))))
    (pss_one (ps_ret (pv 1))))), ?_⟩
      refine ⟨Nat.zero_le _, fun D nD => ?_⟩
      have s1 := same_new nD (o := HO.lst [])
      refine ⟨_, _, rfl, _, rfl, a, rfl, ⟨_, same_t s1 hs⟩, for_tup (K := K) (a := a) (xs := xs) (fun j σ H2 => ∃ (ys : List V) (ts : List Tm) (y3 y4 y5 y6 y7 : Option V), σ = [some (.ref a), some (.ref D), some (.int (shP (b.take j))), y3, y4, y5, y6, y7] ∧ Same H H2 ∧ H2 D = some (.lst ys) ∧ LTVs K H2 ys ts ∧ (∀ x, tvs ts x = seP (b.take j) x) ∧ (∀ t ∈ ts, LOk (k + 1) t) ∧ ts.length ≤ cnP (b.take j) ∧ tmN ts ≤ exP (b.take j)) ⟨[], [], none, none, none, none, none, by rw [List.take_zero, shP_nil]; rfl, s1, upd_same, .nil, fun x => by rw [List.take_zero, seP_nil]; rfl, fun t h => absurd h List.not_mem_nil, Nat.zero_le _, by rw [List.take_zero, exP_nil]; exact Int.le_refl _⟩ ?_ ?_ ?_⟩
      · rintro j σ H2 _ ⟨_, _, _, _, _, _, _, _, s2, _⟩
        exact same_t s2 hs
      · rintro j x σ H2 hj ⟨ys, ts, y3, y4, y5, y6, y7, rfl, s2, hD2, hT, hval, hok, hlen, hN⟩
        obtain ⟨i, hi, hx0⟩ := hI.get hj
        have hm := List.mem_of_getElem? hi
        have hcj := cnP_take' b j
        have hcs := cnP_snoc' hi
        have hcj1 := cnP_take' b (j + 1)
        have wi := WP_mem hw hm
        have hyl := hT.len
        rcases hx0.inv with ⟨e, c, rfl, ht0, rfl⟩ | ⟨e, c, rfl, ht0, rfl⟩ | ⟨e, c, y, bb, rfl, ht0, hy0, rfl⟩
        · have ht := same_t s2 ht0
          refine ⟨_, rfl, e, _, 0, _, rfl, rfl, ht, rfl, rfl, _, rfl, iteS rfl ?_⟩
          refine ⟨_, rfl, _, rfl, e, _, 1, _, rfl, rfl, ht, rfl, _, _, rfl, rfl, ys, ts, some (.ref e), y4, y5, y6, y7, ?_, s2, hD2, hT, fun x => ?_, hok, by omega, ?_⟩
          · rw [shP_snoc hi, shI]
            rfl
          · rw [seP_snoc hi, seI, Int.add_zero]
            exact hval x
          · rw [exP_snoc hi, exI]
            omega
        · have ht := same_t s2 ht0
          refine ⟨_, rfl, e, _, 0, _, rfl, rfl, ht, rfl, rfl, _, rfl, iteN v_ts ?_⟩
          refine ⟨_, rfl, e, _, 0, _, rfl, rfl, ht, rfl, rfl, _, rfl, iteS rfl ?_⟩
          refine ⟨_, rfl, .inl ⟨rfl, _, SqL.of hD2⟩, _, rfl, e, _, 1, _, rfl, rfl, ht, rfl, _, rfl, Nat.zero_le _, fun e0 ne0 => ?_⟩
          have z1 := same_new ne0 (o := HO.tup [])
          refine ⟨sl_of (show 3 ≤ 1000000 by decide), fun t0 nt0 => ?_⟩
          have z2 := same_new nt0 (o := HO.tup [V.int c, V.int (shP (b.take j)), V.ref e0])
          have hD4 := (z1.trans z2) _ _ hD2
          rw [WI] at wi
          rw [cnI] at hcs
          refine ⟨D, ys, _, rfl, rfl, hD4, sl_lt (by omega), ?_⟩
          have t3 : Tp (upd (upd H2 e0 (HO.tup [])) t0 (HO.tup [V.int c, V.int (shP (b.take j)), V.ref e0])) (upd (upd (upd H2 e0 (HO.tup [])) t0 (HO.tup [V.int c, V.int (shP (b.take j)), V.ref e0])) D (.lst (ys ++ [.ref t0]))) := tp_lst hD4
          have hnew : LTermV K (upd (upd H2 e0 (HO.tup [])) t0 (HO.tup [V.int c, V.int (shP (b.take j)), V.ref e0])) (.ref t0) ⟨shP (b.take j), c, []⟩ := ⟨t0, _, rfl, SqT.of upd_same, e0, [], rfl, same_t z2 (SqT.of upd_same), .nil⟩
          refine ⟨ys ++ [.ref t0], ts ++ [⟨shP (b.take j), c, []⟩], some (.ref e), y4, y5, y6, y7, ?_, same_mut (s2.trans (z1.trans z2)) nD, upd_same, LTVs.app (hT.tp ((Same.tp (z1.trans z2)).trans t3)) (.cons (hnew.tp t3) .nil), fun x => ?_, fun t h => ?_, ?_, ?_⟩
          · rw [shP_snoc hi, shI, Int.add_zero]
            rfl
          · rw [tvs_app, hval, seP_snoc hi, seI]
            congr 1
            show c * (if x - shP (b.take j) = 0 then 1 else 0) + 0 = _
            rw [Int.add_zero]
            by_cases hx : x - shP (b.take j) = 0
            · rw [if_pos hx, if_pos (by omega), Int.mul_one]
            · rw [if_neg hx, if_neg (by omega), Int.mul_zero]
          · rcases List.mem_append.mp h with z | z
            · exact hok t z
            · cases List.mem_singleton.mp z
              exact ⟨wi, by show 0 + 1 ≤ k + 1; omega, fun r hr => absurd hr List.not_mem_nil⟩
          · rw [List.length_append]
            show ts.length + 1 ≤ _
            omega
          · rw [exP_snoc hi, exI, tmN_app]
            show tmN ts + (1 + 0) ≤ _
            omega
        · have ht := same_t s2 ht0
          refine ⟨_, rfl, e, _, 0, _, rfl, rfl, ht, rfl, rfl, _, rfl, iteN v_rs ?_⟩
          refine ⟨_, rfl, e, _, 0, _, rfl, rfl, ht, rfl, rfl, _, rfl, iteN v_rt ?_⟩
          have hy2 := hy0.same s2
          have hni := NP_mem hn hm
          rw [NI] at hni
          rw [WI] at wi
          have hdi := dpP_mem hm
          rw [dpI] at hdi
          rw [cnI] at hcs
          have hcb : cnP bb ≤ 1024 := by omega
          refine ⟨_, rfl, e, _, 1, _, rfl, rfl, ht, rfl, c, 0, rfl, rfl, _, rfl, ite2 (fun hc0 => ?_) fun hc0 => ?_⟩
          · have hc1 : 0 < c := of_decide_eq_true hc0
            have hsb : (shP bb).natAbs ≤ 2 ^ 331 := Nat.le_of_lt (sh_lt (k := 3) (by omega) (by decide) wi.2.2 wi.2.1)
            refine ⟨_, rfl, e, _, 2, _, rfl, rfl, ht, rfl, y, bb, rfl, hy2, by omega, by decide, wi.2.2, wi.2.1, fun H3 s3 => ?_⟩
            refine ⟨_, rfl, e, _, 2, _, rfl, rfl, same_t s3 ht, rfl, y, bb, rfl, hy2.same s3, by omega, by omega, wi.2.2, hni.2, hcb, fun D2 zs us H4 s4 nD2 hD2' hZ hzv hzo hzl hzN => ?_⟩
            have hD4 := (s3.trans s4) _ _ hD2
            have neD : D ≠ D2 := ne_of_none (s3 _ _ hD2) nD2
            have hzl2 := hZ.len
            refine ⟨D2, rfl, ⟨_, SqL.of hD2'⟩, for_list (K := K) (a := D2) (xs := zs) (fun m σ H5 => ∃ (ws : List V) (y5 y6 y7 : Option V), σ = [some (.ref a), some (.ref D), some (.int (shP (b.take j))), some (.ref e), some (.int (shP bb)), y5, y6, y7] ∧ Same H H5 ∧ H5 D = some (.lst ws) ∧ H5 D2 = some (.lst zs) ∧ LTVs K H5 zs us ∧ LTVs K H5 ws (ts ++ (us.take m).map fun t => (⟨shP (b.take j) + t.pl, t.co, t.rs ++ [(c, shP bb)]⟩ : Tm))) ⟨ys, y5, y6, y7, rfl, s2.trans (s3.trans s4), hD4, hD2', hZ, by rw [List.take_zero, List.map_nil, List.append_nil]; exact hT.tp (Same.tp (s3.trans s4))⟩ ?_ ?_ ?_⟩
            · rintro m σ H5 _ ⟨_, _, _, _, _, _, _, h5, _⟩
              exact SqL.of h5
            · rintro m z σ H5 hmz ⟨ws, y5', y6', y7', rfl, s5, hD5, hE5, hZ5, hW5⟩
              obtain ⟨t, ht5, q5, xr, rfl, hq5, hxr⟩ := hZ5.get hmz
              have hto := hzo t (List.mem_of_getElem? ht5)
              have hwl := hW5.len
              have hmu : m < us.length := (List.getElem?_eq_some_iff.mp ht5).1
              rw [List.length_append, List.length_map, List.length_take] at hwl
              have htl := hto.len
              refine ⟨q5, _, rfl, hq5, rfl, _, _, rfl, _, _, rfl, _, _, rfl, rfl, ?_⟩
              refine ⟨_, rfl, .inl ⟨rfl, _, SqL.of hD5⟩, _, rfl, _, rfl, _, rfl, _, _, rfl, rfl, _, rfl, _, rfl, e, _, 1, _, rfl, rfl, same_t s5 ht0, rfl, _, rfl, sl_of (show 2 ≤ 1000000 by decide), fun p1 n1 => ?_⟩
              have w1 := same_new n1 (o := HO.tup [V.int c, V.int (shP bb)])
              refine ⟨sl_of (show 1 ≤ 1000000 by decide), fun p2 n2 => ?_⟩
              have w2 := same_new n2 (o := HO.tup [V.ref p1])
              refine cat_pr (hxr.tp (Same.tp (w1.trans w2))) (by omega) (SqT.of upd_same) (same_t w2 (SqT.of upd_same)) fun v6 H6 w3 hv6 => ?_
              refine ⟨sl_of (show 3 ≤ 1000000 by decide), fun t0 nt0 => ?_⟩
              have w4 := same_new nt0 (o := HO.tup [V.int t.co, V.int (shP (b.take j) + t.pl), v6])
              have W := w1.trans (w2.trans (w3.trans w4))
              have hD6 := W _ _ hD5
              refine ⟨D, ws, _, rfl, rfl, hD6, sl_lt (by omega), ?_⟩
              have t6 : Tp (upd H6 t0 (HO.tup [V.int t.co, V.int (shP (b.take j) + t.pl), v6])) (upd (upd H6 t0 (HO.tup [V.int t.co, V.int (shP (b.take j) + t.pl), v6])) D (.lst (ws ++ [.ref t0]))) := tp_lst hD6
              have hnew : LTermV K (upd H6 t0 (HO.tup [V.int t.co, V.int (shP (b.take j) + t.pl), v6])) (.ref t0) ⟨shP (b.take j) + t.pl, t.co, t.rs ++ [(c, shP bb)]⟩ := ⟨t0, _, rfl, SqT.of upd_same, hv6.tp (Same.tp w4)⟩
              refine ⟨ws ++ [.ref t0], some (.int t.co), some (.int t.pl), some xr, rfl, same_mut (s5.trans W) nD, upd_same, ?_, hZ5.tp ((Same.tp W).trans t6), ?_⟩
              · rw [upd_ne neD.symm]
                exact W _ _ hE5
              · rw [take_snoc ht5, List.map_append, ← List.append_assoc]
                exact LTVs.app (hW5.tp ((Same.tp W).trans t6)) (.cons (hnew.tp t6) .nil)
            · rintro σ H5 ⟨ws, y5', y6', y7', rfl, s5, hD5, hE5, hZ5, hW5⟩
              rw [hzl2, List.take_length] at hW5
              refine ⟨_, rfl, _, rfl, e, _, 1, _, rfl, rfl, same_t s5 ht0, rfl, _, rfl, c, shP bb, rfl, rfl, wide_mul (a := 101) (b := 332) (Nat.lt_of_le_of_lt wi.1 (by decide +kernel)) (Nat.lt_of_le_of_lt hsb (by decide +kernel)) (by decide) (by decide) (by decide), _, _, rfl, rfl, ws, _, some (.ref e), some (.int (shP bb)), y5', y6', y7', ?_, s5, hD5, hW5, fun x => ?_, fun t h => ?_, ?_, ?_⟩
              · rw [shP_snoc hi, shI]
                rfl
              · rw [tvs_app, hval, seP_snoc hi, seI, tvs_grown, rsum_congr hzv]
              · rcases List.mem_append.mp h with z | z
                · exact hok t z
                · obtain ⟨t0, ht0m, rfl⟩ := List.mem_map.mp z
                  have hto := hzo t0 ht0m
                  refine ⟨hto.co, ?_, fun r hr => ?_⟩
                  · show (t0.rs ++ [(c, shP bb)]).length + 1 ≤ k + 1
                    rw [List.length_append]
                    have := hto.len
                    show t0.rs.length + 1 + 1 ≤ k + 1
                    omega
                  · rcases List.mem_append.mp hr with g | g
                    · exact hto.rs r g
                    · cases List.mem_singleton.mp g
                      refine ⟨hc1, ?_, hsb⟩
                      show c ≤ 2 ^ 100
                      have := wi.1
                      omega
              · rw [List.length_append, List.length_map]
                omega
              · rw [exP_snoc hi, exI, tmN_app, tmN_grown]
                have := Int.mul_le_mul_of_nonneg_left hzN (by omega : (0 : Int) ≤ c)
                omega
          · have hc1 : c = 0 := by
              have : ¬ (0 < c) := fun z => hc0 (decide_eq_true z)
              have := hni.1
              omega
            refine ⟨ys, ts, some (.ref e), y4, y5, y6, y7, ?_, s2, hD2, hT, fun x => ?_, hok, by omega, ?_⟩
            · rw [shP_snoc hi, shI, hc1, Int.zero_mul, Int.add_zero]
              rfl
            · rw [seP_snoc hi, seI, hc1]
              show _ = _ + 0
              rw [Int.add_zero]
              exact hval x
            · rw [exP_snoc hi, exI, hc1, Int.zero_mul]
              omega
      · rintro σ H2 ⟨ys, ts, y3, y4, y5, y6, y7, rfl, s2, hD2, hT, hval, hok, hlen, hN⟩
        rw [hI.len, List.take_length] at *
        exact ⟨_, rfl, q D ys ts H2 s2 nD hD2 hT hval hok hlen hN⟩
theorem sc__law_outcome : FnScope ["_law_prime_here", "_law_program", "_law_caught", "e"] ["_law_prime_here", "_law_program"] (defScope s__law_outcome) := ⟨rfl, rfl, rfl, by decide +kernel, rfl, by decide +kernel, by decide +kernel⟩
theorem ok__law_outcome {f : Addr} {fd : FuncData} (F : Fun K "_law_outcome" "_law_outcome" s__law_outcome f fd) (B : Blt mg) {C CD : Addr} (Z : LimF P w K mg base C) (Y : IsL K mg C CD) (C_effect_of : CalE P w K mg base 4 "effect_of" (sp_effect_ofX K C)) : FnOk P w K mg base CX0 5 f fd ["_law_prime_here", "_law_program"] (sp__law_outcome K) := by
  refine F.ok sc__law_outcome (fun vs H Q E h => ?_) (fun cdv A outer s H vs Q E hr h => ?_)
  · obtain ⟨p, v, b, rfl, _⟩ := h
    rfl
  · obtain ⟨p, v, b, rfl, hp, hv, hd, hw, hl, hnp, q, qx⟩ := h
    have nd := sc__law_outcome.nd
    refine ⟨_, (pss_cons (ps_set (i := 2) nd rfl (.inl rfl) pe_non)
      (pss_cons (ps_try_hold (i := 3) (c := .ref C) (ts := fun a cls d D σ H => tAsg (tVar 3) (gName 2) D σ H) rfl rfl rfl nd rfl rfl ⟨by rfl, by decide, .inl Z.gl⟩
        (fun W pn xe tk po => pss_one (ps_ret (pe_lst (pa_cons (pe_cE C_effect_of tk hr (by decide) (by rfl) (pa_cons (pv 0) (pa_cons (pv 1) pa_nil))) pa_nil))))
        (fun a oe cls d pn hz hf => pss_one (ps_set (i := 2) nd rfl (.inl rfl) (pv 3))))
      (pss_cons (ps_if (PW.pt (pw_or (pt_not (pt_val (pe_callB (call_isD Y.ec) (by rfl) B.isinstance (by decide +kernel) (pa_cons (pv 2) (pa_cons (pe_bltn (v := .ty "ArithmeticError") (u := .type "ArithmeticError") (by rfl) Y.ae (by decide +kernel) rfl) pa_nil)))))
          (pw_or1 (pt_val (pe_callB (call_isTD Y.ec) (by rfl) B.isinstance (by decide +kernel) (pa_cons (pv 2) (pa_cons (pe_tup (pa_cons (pe_glob (v := .ref CD) (by rfl) Y.tz rfl) (pa_cons (pe_bltn (v := .ty "LookupError") (u := .type "LookupError") (by rfl) Y.le (by decide +kernel) rfl) (pa_cons (pe_bltn (v := .ty "ValueError") (u := .type "ValueError") (by rfl) Y.ve (by decide +kernel) rfl) pa_nil)))) pa_nil)))))))
        (pss_one (ps_ret pe_str)) pss_nil)
      (pss_one (ps_ret (pe_heldF Z.over Z.no (pv 2))))))), ?_⟩
    refine ⟨_, rfl, _, rfl, p, v, b, rfl, hp, hv, hd, hw, hl, hnp, fun few u H1 g s1 hT hN hg => ?_, fun big d nd0 => ?_⟩
    · refine ⟨sl_of (show 1 ≤ 1000000 by decide), fun D nD => ?_⟩
      exact q few D u _ g (s1.trans (same_new nD)) upd_same (hT.tp (tp_new nD)) hN hg
    · refine ⟨Y.em, fun a na => ?_⟩
      have nda : d ≠ a := fun z => by
        rw [← z, upd_same] at na
        cases na
      have s1 := (same_new nd0 (o := HO.xd [(("limit" : Str), V.int 10000)])).trans (same_new na (o := HeldX (.ref C) (some d) a))
      have hda : (upd (upd H d (HO.xd [(("limit" : Str), V.int 10000)])) a (HeldX (.ref C) (some d) a)) d = some (.xd [(("limit" : Str), V.int 10000)]) := (upd_ne nda).trans upd_same
      refine ⟨_, rfl, ?_⟩
      refine ⟨_, rfl, a, d, _, .ty "ArithmeticError", .type "ArithmeticError", true, rfl, upd_same, hda, fun u r => ?_, Y.k1, true, rfl, iteF ?_⟩
      · cases r
        rfl
      refine ⟨_, rfl, sl_of (show 3 ≤ 1000000 by decide), fun t nt => ?_⟩
      have s2 := same_new nt (o := HO.tup [V.ref CD, V.ty "LookupError", V.ty "ValueError"])
      refine ⟨a, d, t, _, [V.ref CD, V.ty "LookupError", V.ty "ValueError"], [.ref CD, .type "LookupError", .type "ValueError"], false, rfl, s2 _ _ upd_same, s2 _ _ hda, SqT.of upd_same, fun us r => ?_, Y.k2, false, rfl, iteF ?_⟩
      · match us, r with
        | [_, _, _], .cons r1 (.cons r2 (.cons r3 .nil)) =>
          cases r1
          cases r2
          cases r3
          rfl
      exact ⟨_, rfl, a, d, _, rfl, s2 _ _ upd_same, s2 _ _ hda, qx big _ (s1.trans s2)⟩
theorem sc__law_near_limit : FnScope ["_law_pen_here", "_law_body", "_law_many", "_law_code", "_law_inner", "_law_rest"] ["_law_pen_here"] (defScope s__law_near_limit) := ⟨rfl, rfl, rfl, by decide +kernel, rfl, by decide +kernel, by decide +kernel⟩
theorem ok__law_near_limit {f : Addr} {fd : FuncData} (F : Fun K "_law_near_limit" "_law_near_limit" s__law_near_limit f fd) (B : Blt mg) (C__law_draw : Cal P w K mg base 1 "_law_draw" sp__law_draw) (C__law_integer : Cal P w K mg base 2 "_law_integer" sp__law_integer) : FnOk P w K mg base CX0 3 f fd ["_law_pen_here"] (sp__law_near_limit K) := by
  refine F.ok sc__law_near_limit (fun vs H Q E h => ?_) (fun cdv A outer s H vs Q E hr h => ?_)
  · obtain ⟨p, c, n, rfl, _⟩ := h
    rfl
  · obtain ⟨p, c, n, rfl, pen, hn, k⟩ := h
    have nd := sc__law_near_limit.nd
    refine ⟨_, (pss_cons (ps_set (i := 1) nd rfl (.inl rfl) (pe_op op_rep (pe_lst (pa_cons (pe_tup (pa_cons pe_str (pa_cons (pe_c C__law_integer hr (by decide) (by rfl) (pa_cons (pv 0) (pa_cons pe_int pa_nil))) pa_nil))) (pa_cons (pe_tup (pa_cons pe_str (pa_cons (pe_c C__law_integer hr (by decide) (by rfl) (pa_cons (pv 0) (pa_cons pe_int pa_nil))) pa_nil))) pa_nil))) (pe_op op_add pe_int (pe_c C__law_draw hr (by decide) (by rfl) (pa_cons (pv 0) (pa_cons pe_int pa_nil))))))
    (pss_cons (ps_set (i := 1) nd rfl (.inl rfl) (pe_slice sl_list (pv 1) po_none (po_some (pe_op op_sub (pe_callB call_len_seq (by rfl) B.len (by decide +kernel) (pa_cons (pv 1) pa_nil)) (pe_c C__law_draw hr (by decide) (by rfl) (pa_cons (pv 0) (pa_cons pe_int pa_nil)))))))
    (pss_cons (ps_set (i := 2) nd rfl (.inl rfl) (pe_op op_fdiv pe_int (pe_callB call_len_seq (by rfl) B.len (by decide +kernel) (pa_cons (pv 1) pa_nil))))
    (pss_cons (ps_set (i := 3) nd rfl (.inl rfl) (pe_lst (pa_cons (pe_tup (pa_cons pe_str (pa_cons (pv 2) (pa_cons (pv 1) pa_nil)))) pa_nil)))
    (pss_cons (ps_cut (ps_if (pt_cmpR op_eq (pe_c C__law_draw hr (by decide) (by rfl) (pa_cons (pv 0) (pa_cons pe_int pa_nil))) pe_int (nomark _))
      (pss_cons (ps_set (i := 4) nd rfl (.inl rfl) (pe_op op_add pe_int (pe_c C__law_draw hr (by decide) (by rfl) (pa_cons (pv 0) (pa_cons pe_int pa_nil)))))
    (pss_cons (ps_set (i := 2) nd rfl (.inl rfl) (pe_op op_mul (pe_op op_fdiv pe_int (pe_op op_mul (pv 4) (pe_callB call_len_seq (by rfl) B.len (by decide +kernel) (pa_cons (pv 1) pa_nil)))) (pv 4)))
    (pss_one (ps_set (i := 3) nd rfl (.inl rfl) (pe_lst (pa_cons (pe_tup (pa_cons pe_str (pa_cons (pe_op op_fdiv (pv 2) (pv 4)) (pa_cons (pe_lst (pa_cons (pe_tup (pa_cons pe_str (pa_cons (pv 4) (pa_cons (pv 1) pa_nil)))) pa_nil)) pa_nil)))) pa_nil))))))
      pss_nil))
    (pss_cons (ps_set (i := 5) nd rfl (.inl rfl) (pe_op op_sub (pe_op op_add pe_int (pe_c C__law_draw hr (by decide) (by rfl) (pa_cons (pv 0) (pa_cons pe_int pa_nil)))) (pe_op op_mul (pv 2) (pe_callB call_len_seq (by rfl) B.len (by decide +kernel) (pa_cons (pv 1) pa_nil)))))
    (pss_cons (ps_cut (ps_if (pt_cmpR op_gt (pv 5) pe_int (nomark _))
      (pss_cons (ps_set (i := 3) nd rfl (.inl rfl) (pe_op op_cat (pv 3) (pe_lst (pa_cons (pe_tup (pa_cons pe_str (pa_cons (pe_op op_fdiv (pv 5) pe_int) (pa_cons (pe_op op_rep (pe_lst (pa_cons (pe_tup (pa_cons pe_str (pa_cons pe_int pa_nil))) pa_nil)) pe_int) pa_nil)))) pa_nil))))
    (pss_one (ps_set (i := 5) nd rfl (.inl rfl) (pe_op op_mod (pv 5) pe_int))))
      pss_nil))
    (pss_one (ps_ret (pe_op op_cat (pv 3) (pe_op op_rep (pe_lst (pa_cons (pe_tup (pa_cons pe_str (pa_cons pe_int pa_nil))) pa_nil)) (pv 5)))))))))))), ?_⟩
    refine ⟨_, rfl, p, c, 5, n, rfl, by decide, by decide +kernel, pen, by omega, fun c1 H1 hc1 k1 pen1 => ?_⟩
    refine ⟨sl_of (show 2 ≤ 1000000 by decide), fun t1 nt1 => ?_⟩
    have z1 := same_new nt1 (o := HO.tup [V.str "turn", V.int c1])
    have pen1 := pen1.same z1
    have ht1 : SqT K _ t1 [V.str "turn", V.int c1] := SqT.of (upd_same (H := H1))
    refine ⟨_, rfl, p, c, 3, _, rfl, by decide, by decide +kernel, pen1, by omega, fun c2 H2 hc2 k2 pen2 => ?_⟩
    have ht1 := tp_t (pen1.tp k2) ht1
    refine ⟨sl_of (show 2 ≤ 1000000 by decide), fun t2 nt2 => ?_⟩
    have z2 := same_new nt2 (o := HO.tup [V.str "step", V.int c2])
    refine ⟨sl_of (show 2 ≤ 1000000 by decide), fun l nl => ?_⟩
    have z3 := same_new nl (o := HO.lst [V.ref t1, V.ref t2])
    have pen3 := pen2.same (z2.trans z3)
    have hI : IVs K _ [V.ref t1, V.ref t2] [.turn c1, .step c2] := .cons (iv_turn (same_t (z2.trans z3) ht1)) (.cons (iv_step (same_t z3 (SqT.of (upd_same (H := H2))))) .nil)
    refine ⟨_, rfl, p, c, 4, _, rfl, by decide, by decide, pen3, by omega, fun r H4 r0 r9 k4 pen4 => ?_⟩
    have hl4 := kp_lst pen3 k4 upd_same
    have hI4 := hI.kp pen3 k4
    refine ⟨_, _, rfl, rfl, l, 1 + r, _, rfl, rfl, hl4, by omega, by omega, sl_of (show 2 * (1 + r).toNat ≤ 1000000 by omega), fun A nA => ?_⟩
    have fl0 : Flat (List.replicate (1 + r).toNat [Ins.turn c1, .step c2]).flatten 8 5 := by
      have f := (flat2 (c := c1) (d := c2) (R := 5) (by omega) (by omega)).repl (1 + r).toNat
      exact ⟨Nat.le_trans f.len (by omega), f.flat, f.cnt⟩
    have hI5 := (hI4.repl (1 + r).toNat).same (same_new nA (o := HO.lst (List.replicate (1 + r).toNat [V.ref t1, V.ref t2]).flatten))
    have l0 : (List.replicate (1 + r).toNat [V.ref t1, V.ref t2]).flatten.length = (1 + r).toNat * 2 := replLen _ _
    have pen5 := pen4.same (same_new nA (o := HO.lst (List.replicate (1 + r).toNat [V.ref t1, V.ref t2]).flatten))
    have kA : Kp p H (upd H4 A (HO.lst (List.replicate (1 + r).toNat [V.ref t1, V.ref t2]).flatten)) := k1.trans ((Same.kp z1).trans (k2.trans ((Same.kp (z2.trans z3)).trans (k4.trans (Same.kp (same_new nA))))))
    have hA : (upd H4 A (HO.lst (List.replicate (1 + r).toNat [V.ref t1, V.ref t2]).flatten)) A = _ := upd_same
    generalize (List.replicate (1 + r).toNat [Ins.turn c1, .step c2]).flatten = b0 at fl0 hI5
    generalize (List.replicate (1 + r).toNat [V.ref t1, V.ref t2]).flatten = x0 at hI5 l0 pen5 kA hA
    generalize upd H4 A (HO.lst x0) = H5 at hI5 pen5 kA hA
    refine ⟨_, rfl, _, rfl, A, _, rfl, .inl (SqL.of hA), _, rfl, p, c, 2, _, rfl, by decide, by decide, pen5, by omega, fun r2 H6 r20 r29 k6 pen6 => ?_⟩
    have hA6 := kp_lst pen5 k6 hA
    refine ⟨_, _, rfl, rfl, _, rfl, A, x0, rfl, SqL.of hA6, fun A2 nA2 => ?_⟩
    have em : ((x0.length : Int) - r2) = ((x0.length - r2.toNat : Nat) : Int) := by omega
    have ec : cutV x0 none (some ((x0.length : Int) - r2)) = x0.take (x0.length - r2.toNat) := by
      rw [em]
      exact cutLim _ (by omega)
    have z7 := same_new nA2 (o := HO.lst (cutV x0 none (some ((x0.length : Int) - r2))))
    have fl1 := fl0.take (x0.length - r2.toNat)
    have hI7 : IVs K (upd H6 A2 (HO.lst (cutV x0 none (some ((x0.length : Int) - r2))))) (cutV x0 none (some ((x0.length : Int) - r2))) (b0.take (x0.length - r2.toNat)) := by
      rw [ec]
      exact ((hI5.kp pen5 k6).same (ec ▸ z7)).take _
    have l7 : ((cutV x0 none (some ((x0.length : Int) - r2))).length : Int) = ((x0.length - r2.toNat : Nat) : Int) := by
      rw [ec, List.length_take]
      omega
    have pen7 := pen6.same z7
    have kB := kA.trans (k6.trans (Same.kp z7))
    have hA7 : (upd H6 A2 (HO.lst (cutV x0 none (some ((x0.length : Int) - r2))))) A2 = some (HO.lst (cutV x0 none (some ((x0.length : Int) - r2)))) := upd_same
    obtain ⟨L, hL⟩ : ∃ L : Int, L = ((cutV x0 none (some ((x0.length : Int) - r2))).length : Int) := ⟨_, rfl⟩
    have hL1 : 1 ≤ L := by omega
    have hL8 : L ≤ 8 := by
      have := hI7.len
      have := fl1.len
      omega
    have pr1 : PrR (b0.take (x0.length - r2.toNat)) 0 8 (10 ^ 31) := fl1.okR (by decide) _
    refine ⟨_, rfl, A2, _, rfl, .inl (SqL.of hA7), _, _, rfl, rfl, ⟨by omega, by omega⟩, ?_⟩
    refine ⟨_, rfl, _, rfl, sl_of (show 3 ≤ 1000000 by decide), fun t3 nt3 => ?_⟩
    have m0 : 0 ≤ (9999 : Int) / L := Int.ediv_nonneg (by decide) (by omega)
    have m9 : (9999 : Int) / L ≤ 9999 := Int.ediv_le_self _ (by decide)
    have mL : (9999 : Int) / L * L ≤ 9999 := Int.ediv_mul_le _ (by omega)
    have z8 := same_new nt3 (o := HO.tup [V.str "repeat", V.int (9999 / ((cutV x0 none (some ((x0.length : Int) - r2))).length : Int)), V.ref A2])
    refine ⟨sl_of (show 1 ≤ 1000000 by decide), fun l3 nl3 => ?_⟩
    have z9 := same_new nl3 (o := HO.lst [V.ref t3])
    have S9 := z8.trans z9
    have hA9 := S9 _ _ hA7
    have hI9 := hI7.same S9
    have pen9 := pen7.same S9
    have hL9 : (9999 : Int) / ((cutV x0 none (some ((x0.length : Int) - r2))).length : Int) = 9999 / L := by rw [hL]
    have hC9 : IVs K _ [V.ref t3] [.rep (9999 / L) (b0.take (x0.length - r2.toNat))] := .cons (iv_rep (same_t z9 (SqT.of (by rw [← hL9]; exact upd_same))) (pv_list (SqL.of hA9) hI9)) .nil
    have prC : PrR [.rep (9999 / L) (b0.take (x0.length - r2.toNat))] 2 20 (10 ^ 31) := (pr1.rep (by decide) (by omega) m0 (by omega)).up (by decide) (by decide)
    have kC := kB.trans (Same.kp S9)
    -- one repeat, or two
    refine ⟨fun σ H' => ∃ (C : Addr) (ys : List V) (b : List Ins) (m : Int) (y4 : Option V), σ = [some (.ref p), some (.ref A2), some (.int m), some (.ref C), y4, none] ∧ Kp p H H' ∧ H' A2 = some (HO.lst (cutV x0 none (some ((x0.length : Int) - r2)))) ∧ PenAt H' p c (n + 20) ∧ H' C = some (.lst ys) ∧ IVs K H' ys b ∧ PrR b 2 20 (10 ^ 31) ∧ 0 ≤ m ∧ m ≤ 9999 ∧ m * L ≤ 9999, ?_, ?_⟩
    · refine ⟨_, rfl, p, c, 2, _, rfl, by decide, by decide, pen9, by omega, fun r3 H10 _ _ k10 pen10 => ?_⟩
      have hA10 := kp_lst pen9 k10 hA9
      have hI10 := hI9.kp pen9 k10
      refine ⟨rfl, _, rfl, ite2 (fun _ => ?_) fun _ => ?_⟩
      · refine ⟨_, rfl, p, c, 60, _, rfl, by decide, by decide, pen10, by omega, fun r4 H11 r40 r49 k11 pen11 => ?_⟩
        have hA11 := kp_lst pen10 k11 hA10
        have hI11 := hI10.kp pen10 k11
        refine ⟨_, _, rfl, rfl, ?_⟩
        have i0 : 0 < 2 + r4 := by omega
        have iL : 0 < (2 + r4) * L := Int.mul_pos i0 (by omega)
        have q0 : 0 ≤ (9999 : Int) / ((2 + r4) * L) := Int.ediv_nonneg (by decide) (by omega)
        have q9 : (9999 : Int) / ((2 + r4) * L) ≤ 9999 := Int.ediv_le_self _ (by decide)
        have qL : (9999 : Int) / ((2 + r4) * L) * ((2 + r4) * L) ≤ 9999 := Int.ediv_mul_le _ (by omega)
        have qm : 0 ≤ (9999 : Int) / ((2 + r4) * L) * (2 + r4) := Int.mul_nonneg q0 (by omega)
        have qmL : (9999 : Int) / ((2 + r4) * L) * (2 + r4) * L ≤ 9999 := by rw [Int.mul_assoc]; exact qL
        have qm9 : (9999 : Int) / ((2 + r4) * L) * (2 + r4) ≤ 9999 := by
          have := Int.mul_le_mul_of_nonneg_left hL1 qm
          omega
        have iL9 : (2 + r4) * L ≤ 1000 := by
          have := Int.mul_le_mul (show 2 + r4 ≤ 61 by omega) hL8 (by omega) (by decide)
          omega
        refine ⟨_, rfl, _, rfl, A2, _, rfl, .inl (SqL.of hA11), _, _, rfl, rfl, .inl ⟨by omega, by omega⟩, ?_⟩
        rw [← hL]
        refine ⟨_, _, rfl, rfl, ⟨iL, by omega⟩, ?_⟩
        refine ⟨_, rfl, _, _, rfl, rfl, .inl ⟨by omega, by omega⟩, ?_⟩
        refine ⟨_, rfl, _, rfl, _, _, rfl, rfl, ⟨i0, by omega⟩, ?_⟩
        refine ⟨_, rfl, _, rfl, sl_of (show 3 ≤ 1000000 by decide), fun t5 nt5 => ?_⟩
        have w1 := same_new nt5 (o := HO.tup [V.str "repeat", V.int (2 + r4), V.ref A2])
        refine ⟨sl_of (show 1 ≤ 1000000 by decide), fun l5 nl5 => ?_⟩
        have w2 := same_new nl5 (o := HO.lst [V.ref t5])
        refine ⟨sl_of (show 3 ≤ 1000000 by decide), fun t6 nt6 => ?_⟩
        have w3 := same_new nt6 (o := HO.tup [V.str "repeat", V.int (9999 / ((2 + r4) * L) * (2 + r4) / (2 + r4)), V.ref l5])
        refine ⟨sl_of (show 1 ≤ 1000000 by decide), fun l6 nl6 => ?_⟩
        have w4 := same_new nl6 (o := HO.lst [V.ref t6])
        have W := w1.trans (w2.trans (w3.trans w4))
        have ev : (9999 : Int) / ((2 + r4) * L) * (2 + r4) / (2 + r4) = 9999 / ((2 + r4) * L) := Int.mul_ediv_cancel _ (by omega)
        have hin : IV K _ (V.ref t5) (.rep (2 + r4) (b0.take (x0.length - r2.toNat))) := iv_rep (same_t (w2.trans (w3.trans w4)) (SqT.of (upd_same (H := H11)))) (pv_list (SqL.of (W _ _ hA11)) (hI11.same W))
        have hl5 := (w3.trans w4) _ _ (upd_same (H := upd H11 t5 (HO.tup [V.str "repeat", V.int (2 + r4), V.ref A2])) (a := l5) (o := HO.lst [V.ref t5]))
        have hout : IV K _ (V.ref t6) (.rep (9999 / ((2 + r4) * L) * (2 + r4) / (2 + r4)) [.rep (2 + r4) (b0.take (x0.length - r2.toNat))]) := iv_rep (same_t w4 (SqT.of upd_same)) (pv_list (SqL.of hl5) (.cons hin .nil))
        rw [ev] at hout
        refine ⟨l6, [.ref t6], _, _, _, rfl, kC.trans (k10.trans (k11.trans (Same.kp W))), W _ _ hA11, (pen11.same W).mono (by omega), upd_same, .cons hout .nil, ?_, qm, qm9, qmL⟩
        exact ((pr1.rep (by decide) (by omega) (by omega) (by omega)).rep (by decide) (by omega) q0 (by omega)).up (by decide) (by decide)
      · refine ⟨l3, [.ref t3], _, 9999 / ((cutV x0 none (some ((x0.length : Int) - r2))).length : Int), _, rfl, kC.trans k10, hA10, pen10.mono (by omega), kp_lst pen9 k10 upd_same, hC9.kp pen9 k10, prC, ?_, ?_, ?_⟩ <;> rw [hL9] <;> assumption
    · rintro σ H12 ⟨C, ys, b, m, y4, rfl, k12, hA12, pen12, hC12, hI12, pr12, hm0, hm9, hmL⟩
      refine ⟨_, rfl, p, c, 3, _, rfl, by decide, by decide, pen12, by omega, fun r5 H13 r50 r59 k13 pen13 => ?_⟩
      have hA13 := kp_lst pen12 k13 hA12
      refine ⟨_, _, rfl, rfl, _, rfl, _, rfl, A2, _, rfl, .inl (SqL.of hA13), _, _, rfl, rfl, .inl ⟨by omega, by omega⟩, _, _, rfl, rfl, ?_⟩
      rw [← hL]
      have hC13 := kp_lst pen12 k13 hC12
      have hI13 := hI12.kp pen12 k13
      have re0 : 0 ≤ (9999 + r5 - m * L) := by omega
      have re9 : (9999 + r5 - m * L) ≤ 10001 := by
        have := Int.mul_nonneg hm0 (by omega : (0 : Int) ≤ L)
        omega
      refine ⟨fun σ H' => ∃ (C : Addr) (ys : List V) (b : List Ins) (q : Int), σ = [some (.ref p), some (.ref A2), some (.int m), some (.ref C), y4, some (.int q)] ∧ Kp p H H' ∧ PenAt H' p c (n + 21) ∧ H' C = some (.lst ys) ∧ IVs K H' ys b ∧ PrR b 2 50 (10 ^ 31) ∧ 0 ≤ q ∧ q ≤ 40, ?_, ?_⟩
      · refine ⟨_, rfl, _, 40, rfl, rfl, _, rfl, ite2 (fun _ => ?_) fun few => ?_⟩
        · refine ⟨_, rfl, _, rfl, _, _, rfl, rfl, ⟨by decide, by decide⟩, ?_⟩
          refine ⟨sl_of (show 2 ≤ 1000000 by decide), fun t7 nt7 => ?_⟩
          have w1 := same_new nt7 (o := HO.tup [V.str "step", V.int 1])
          refine ⟨sl_of (show 1 ≤ 1000000 by decide), fun l7 nl7 => ?_⟩
          have w2 := same_new nl7 (o := HO.lst [V.ref t7])
          have hl7 : (upd (upd H13 t7 (HO.tup [V.str "step", V.int 1])) l7 (HO.lst [V.ref t7])) l7 = some (HO.lst [V.ref t7]) := upd_same
          refine ⟨l7, 20, _, rfl, rfl, hl7, by decide, by decide, sl_of (show 1 * 20 ≤ 1000000 by decide), fun l8 nl8 => ?_⟩
          have w3 := same_new nl8 (o := HO.lst (List.replicate (20 : Int).toNat [V.ref t7]).flatten)
          refine ⟨sl_of (show 3 ≤ 1000000 by decide), fun t9 nt9 => ?_⟩
          have w4 := same_new nt9 (o := HO.tup [V.str "repeat", V.int ((9999 + r5 - m * L) / 20), V.ref l8])
          refine ⟨sl_of (show 1 ≤ 1000000 by decide), fun l9 nl9 => ?_⟩
          have w5 := same_new nl9 (o := HO.lst [V.ref t9])
          have W := w1.trans (w2.trans (w3.trans (w4.trans w5)))
          have l13 : ys.length ≤ 1000 := by
            have h1 := hI13.len
            have h2 := len_cnP b
            have h3 := pr12.ok.cn
            omega
          refine ⟨C, l9, _, _, rfl, rfl, W _ _ hC13, upd_same, sl_of (show ys.length + 1 ≤ 1000000 by omega), fun C2 nC2 => ?_⟩
          have w6 := same_new nC2 (o := HO.lst (ys ++ [V.ref t9]))
          have W6 := W.trans w6
          have fs : Flat (List.replicate (20 : Int).toNat [Ins.step 1]).flatten 20 1 := by
            have f := (flat1 (i := .step 1) (R := 1) trivial (by decide)).repl (20 : Int).toNat
            exact f
          have hs20 : IVs K _ (List.replicate (20 : Int).toNat [V.ref t7]).flatten (List.replicate (20 : Int).toNat [Ins.step 1]).flatten := IVs.repl (.cons (iv_step (same_t (w2.trans (w3.trans (w4.trans (w5.trans w6)))) (SqT.of (upd_same (H := H13))))) .nil) _
          have hl8 := (w4.trans (w5.trans w6)) _ _ (upd_same (H := upd (upd H13 t7 (HO.tup [V.str "step", V.int 1])) l7 (HO.lst [V.ref t7])) (a := l8) (o := HO.lst (List.replicate (20 : Int).toNat [V.ref t7]).flatten))
          have hrp : IV K _ (V.ref t9) (.rep ((9999 + r5 - m * L) / 20) (List.replicate (20 : Int).toNat [Ins.step 1]).flatten) := iv_rep (same_t (w5.trans w6) (SqT.of upd_same)) (pv_list (SqL.of hl8) hs20)
          refine ⟨_, rfl, _, _, rfl, rfl, (by show (0 : Int) < 20; decide), C2, _, _, (9999 + r5 - m * L) % 20, rfl, k12.trans (k13.trans (Same.kp W6)), (pen13.same W6).mono (by omega), upd_same, IVs.app (hI13.same W6) (.cons hrp .nil), ?_, Int.emod_nonneg _ (by decide), by omega⟩
          exact (pr12.app (((fs.okR (by decide) (10 ^ 31)).rep (by decide) (by omega) (by omega) (by omega)))).up (by decide) (by decide)
        · have r40 : (9999 + r5 - m * L) ≤ 40 := by
            exact Int.not_lt.mp fun z => few (decide_eq_true z)
          exact ⟨C, ys, b, (9999 + r5 - m * L), rfl, k12.trans k13, pen13, hC13, hI13, pr12.up (by decide) (by decide), re0, r40⟩
      · rintro σ H14 ⟨C, ys, b, q, rfl, k14, pen14, hC14, hI14, pr14, hq0, hq9⟩
        refine ⟨_, rfl, sl_of (show 2 ≤ 1000000 by decide), fun t7 nt7 => ?_⟩
        have w1 := same_new nt7 (o := HO.tup [V.str "turn", V.int 1])
        refine ⟨sl_of (show 1 ≤ 1000000 by decide), fun l7 nl7 => ?_⟩
        have w2 := same_new nl7 (o := HO.lst [V.ref t7])
        have hl7 : (upd (upd H14 t7 (HO.tup [V.str "turn", V.int 1])) l7 (HO.lst [V.ref t7])) l7 = some (HO.lst [V.ref t7]) := upd_same
        refine ⟨_, rfl, l7, q, _, rfl, rfl, hl7, by omega, by omega, sl_of (show 1 * q.toNat ≤ 1000000 by omega), fun l8 nl8 => ?_⟩
        have w3 := same_new nl8 (o := HO.lst (List.replicate q.toNat [V.ref t7]).flatten)
        have W := w1.trans (w2.trans w3)
        have l14 : ys.length ≤ 1000 := by
          have h1 := hI14.len
          have h2 := len_cnP b
          have h3 := pr14.ok.cn
          omega
        have lq : (List.replicate q.toNat [V.ref t7]).flatten.length = q.toNat * 1 := replLen _ _
        refine ⟨C, l8, _, _, rfl, rfl, W _ _ hC14, upd_same, sl_of (by omega), fun F nF => ?_⟩
        have w4 := same_new nF (o := HO.lst (ys ++ (List.replicate q.toNat [V.ref t7]).flatten))
        have W4 := W.trans w4
        have ft : Flat (List.replicate q.toNat [Ins.turn 1]).flatten 40 1 := by
          have f := (flat1 (i := .turn 1) (R := 1) trivial (by decide)).repl q.toNat
          exact ⟨Nat.le_trans f.len (by omega), f.flat, f.cnt⟩
        have hq : IVs K _ (List.replicate q.toNat [V.ref t7]).flatten (List.replicate q.toNat [Ins.turn 1]).flatten := IVs.repl (.cons (iv_turn (same_t (w2.trans (w3.trans w4)) (SqT.of (upd_same (H := H14))))) .nil) _
        exact k F _ _ _ (k14.trans (Same.kp W4)) ((pen14.same W4).mono (by omega)) upd_same (IVs.app (hI14.same W4) hq) ((pr14.app (ft.okR (by decide) _)).up (by decide) (by decide))
theorem sc__law_idle : FnScope ["_law_pen_here", "_law_large", "_law_some", "_law_options"] ["_law_pen_here"] (defScope s__law_idle) := ⟨rfl, rfl, rfl, by decide +kernel, rfl, by decide +kernel, by decide +kernel⟩
theorem ok__law_idle {f : Addr} {fd : FuncData} (F : Fun K "_law_idle" "_law_idle" s__law_idle f fd) (B : Blt mg) (C__law_draw : Cal P w K mg base 1 "_law_draw" sp__law_draw) (C__law_pick : Cal P w K mg base 2 "_law_pick" sp__law_pick) : FnOk P w K mg base CX0 3 f fd ["_law_pen_here"] (sp__law_near_limit K) := by
  refine F.ok sc__law_idle (fun vs H Q E h => ?_) (fun cdv A outer s H vs Q E hr h => ?_)
  · obtain ⟨p, c, n, rfl, _⟩ := h
    rfl
  · obtain ⟨p, c, n, rfl, pen, hn, k⟩ := h
    have nd := sc__law_idle.nd
    refine ⟨_, (pss_cons (ps_par (i := 1) (j := 2) (by rfl) nd rfl rfl (by decide) rfl rfl (pa_cons (pe_op op_sub (pe_op op_pow pe_int pe_int) (pe_c C__law_draw hr (by decide) (by rfl) (pa_cons (pv 0) (pa_cons pe_int pa_nil)))) (pa_cons (pe_lst (pa_cons (pe_tup (pa_cons pe_str (pa_cons pe_int pa_nil))) (pa_cons (pe_tup (pa_cons pe_str (pa_cons pe_int pa_nil))) pa_nil))) pa_nil)) (by rfl))
    (pss_cons (ps_set (i := 3) nd rfl (.inl rfl) (pe_lst (pa_cons (pe_lst (pa_cons (pe_tup (pa_cons pe_str (pa_cons (pv 1) (pa_cons (pe_lst pa_nil) pa_nil)))) pa_nil)) (pa_cons (pe_lst (pa_cons (pe_tup (pa_cons pe_str (pa_cons (pv 1) (pa_cons (pe_lst (pa_cons (pe_tup (pa_cons pe_str (pa_cons pe_int (pa_cons (pv 2) pa_nil)))) pa_nil)) pa_nil)))) pa_nil)) pa_nil))))
    (pss_cons (ps_set (i := 3) nd rfl (.inl rfl) (pe_op op_cat (pv 3) (pe_lst (pa_cons (pe_lst (pa_cons (pe_tup (pa_cons pe_str (pa_cons pe_int (pa_cons (pe_lst (pa_cons (pe_tup (pa_cons pe_str (pa_cons (pv 1) (pa_cons (pv 2) pa_nil)))) pa_nil)) pa_nil)))) pa_nil)) (pa_cons (pe_lst (pa_cons (pe_tup (pa_cons pe_str (pa_cons (pv 1) (pa_cons (pe_lst (pa_cons (pe_tup (pa_cons pe_str (pa_cons (pv 1) (pa_cons (pe_lst pa_nil) pa_nil)))) pa_nil)) pa_nil)))) pa_nil)) pa_nil)))))
    (pss_one (ps_ret (pe_op op_cat (pe_op op_cat (pv 2) (pe_c C__law_pick hr (by decide) (by rfl) (pa_cons (pv 0) (pa_cons (pv 3) pa_nil)))) (pv 2))))))), ?_⟩
    refine ⟨_, _, rfl, rfl, ⟨by decide, by decide, by decide⟩, ?_⟩
    refine ⟨_, rfl, p, c, 3, n, rfl, by decide, by decide, pen, by omega, fun r H1 r0 r9 k1 pen1 => ?_⟩
    refine ⟨_, _, rfl, rfl, ?_⟩
    have hN0 : 0 ≤ ((10 : Int) ^ Int.toNat 30 - r) ∧ ((10 : Int) ^ Int.toNat 30 - r) ≤ 10 ^ 30 := by
      have : (10 : Int) ^ Int.toNat 30 = 10 ^ 30 := rfl
      omega
    have hNb : ((10 : Int) ^ Int.toNat 30 - r).natAbs ≤ 2 ^ 100 := Nat.le_trans (show ((10 : Int) ^ Int.toNat 30 - r).natAbs ≤ 10 ^ 30 by omega) (by decide +kernel)
    have hN9 : ((10 : Int) ^ Int.toNat 30 - r) ≤ 10 ^ 31 := Int.le_trans hN0.2 (by decide)
    refine ⟨sl_of (show 2 ≤ 1000000 by decide), fun t1 n1 => ?_⟩
    have z1 := same_new n1 (o := HO.tup [V.str "step", V.int 2])
    refine ⟨sl_of (show 2 ≤ 1000000 by decide), fun t2 n2 => ?_⟩
    have z2 := same_new n2 (o := HO.tup [V.str "turn", V.int 3])
    refine ⟨sl_of (show 2 ≤ 1000000 by decide), fun S nS => ?_⟩
    have z3 := same_new nS (o := HO.lst [V.ref t1, V.ref t2])
    have fs : PrR [.step 2, .turn 3] 0 2 (10 ^ 31) := by
      have f1 := (flat1 (i := .step 2) (R := 3) trivial (by decide)).okR (by decide) (10 ^ 31)
      have f2 := (flat1 (i := .turn 3) (R := 3) trivial (by decide)).okR (by decide) (10 ^ 31)
      exact f1.app f2
    have hS : IVs K _ [V.ref t1, V.ref t2] [.step 2, .turn 3] := .cons (iv_step (same_t (z2.trans z3) (SqT.of (upd_same (H := H1))))) (.cons (iv_turn (same_t z3 (SqT.of upd_same))) .nil)
    have hSa := upd_same (H := upd (upd H1 t1 (HO.tup [V.str "step", V.int 2])) t2 (HO.tup [V.str "turn", V.int 3])) (a := S) (o := HO.lst [V.ref t1, V.ref t2])
    have pen2 := pen1.same (z1.trans (z2.trans z3))
    have kA := k1.trans (Same.kp (z1.trans (z2.trans z3)))
    generalize upd (upd (upd H1 t1 (HO.tup [V.str "step", V.int 2])) t2 (HO.tup [V.str "turn", V.int 3])) S (HO.lst [V.ref t1, V.ref t2]) = H2 at hS hSa pen2 kA
    refine ⟨_, _, rfl, ?_⟩
    -- a repeat of so many rounds of what stands at b
    have rp : ∀ {H : Hp} {t l y : Addr} {m : Int} {ys : List V} {b : List Ins} {d e : Nat}, H t = none → upd H t (HO.tup [V.str "repeat", V.int m, V.ref y]) l = none → H y = some (.lst ys) → IVs K H ys b → PrR b d e (10 ^ 31) → e ≤ 8 → d ≤ 1 → 0 ≤ m → m ≤ 10 ^ 31 → m.natAbs ≤ 2 ^ 100 →
        OptAt K (upd (upd H t (HO.tup [V.str "repeat", V.int m, V.ref y])) l (HO.lst [V.ref t])) (.ref l) ∧ PrR [.rep m b] (d + 1) (e + 1) (10 ^ 31) ∧ IVs K (upd (upd H t (HO.tup [V.str "repeat", V.int m, V.ref y])) l (HO.lst [V.ref t])) [V.ref t] [.rep m b] := by
      intro H t l y m ys b d e nt nl hy hI hp he hd m0 m9 mb
      have x1 := same_new nt (o := HO.tup [V.str "repeat", V.int m, V.ref y])
      have x2 := same_new (H := upd H t (HO.tup [V.str "repeat", V.int m, V.ref y])) (p := l) (o := HO.lst [V.ref t]) nl
      have iv : IVs K (upd (upd H t (HO.tup [V.str "repeat", V.int m, V.ref y])) l (HO.lst [V.ref t])) [V.ref t] [.rep m b] := .cons (iv_rep (same_t x2 (SqT.of upd_same)) (pv_list (SqL.of ((x1.trans x2) _ _ hy)) (hI.same (x1.trans x2)))) .nil
      have pr := hp.rep (by omega) mb m0 m9
      exact ⟨⟨l, [.ref t], _, rfl, upd_same, iv, pr.up (by omega) (by omega)⟩, pr, iv⟩
    have LN := hN0.1
    refine ⟨_, rfl, Nat.zero_le _, fun e1 ne1 => ?_⟩
    have a1 := same_new ne1 (o := HO.lst [])
    refine ⟨sl_of (show 3 ≤ 1000000 by decide), fun t3 n3 => ?_⟩
    have a2 := same_new n3 (o := HO.tup [V.str "repeat", V.int ((10 : Int) ^ Int.toNat 30 - r), V.ref e1])
    refine ⟨sl_of (show 1 ≤ 1000000 by decide), fun o1 m1 => ?_⟩
    have a3 := same_new m1 (o := HO.lst [V.ref t3])
    have O1 := (rp n3 m1 (b := []) (d := 0) (e := 0) upd_same .nil prR_nil (by decide) (by decide) LN hN9 hNb).1
    have hS3 := hS.same (a1.trans (a2.trans a3))
    have hSa3 := (a1.trans (a2.trans a3)) _ _ hSa
    have pen3 := pen2.same (a1.trans (a2.trans a3))
    have kA3 := kA.trans (Same.kp (a1.trans (a2.trans a3)))
    -- the second
    refine ⟨_, rfl, _, rfl, sl_of (show 3 ≤ 1000000 by decide), fun t4 n4 => ?_⟩
    have b1 := same_new n4 (o := HO.tup [V.str "repeat", V.int 0, V.ref S])
    refine ⟨sl_of (show 1 ≤ 1000000 by decide), fun l4 m4 => ?_⟩
    have b2 := same_new m4 (o := HO.lst [V.ref t4])
    have R4 := rp n4 m4 hSa3 hS3 fs (by decide) (by decide) (Int.le_refl 0) (by decide) (by decide)
    refine ⟨sl_of (show 3 ≤ 1000000 by decide), fun t5 n5 => ?_⟩
    have b3 := same_new n5 (o := HO.tup [V.str "repeat", V.int ((10 : Int) ^ Int.toNat 30 - r), V.ref l4])
    refine ⟨sl_of (show 1 ≤ 1000000 by decide), fun o2 m5 => ?_⟩
    have b4 := same_new m5 (o := HO.lst [V.ref t5])
    have O2 := (rp n5 m5 upd_same R4.2.2 R4.2.1 (by decide) (by decide) LN hN9 hNb).1
    have Bb := b1.trans (b2.trans (b3.trans b4))
    have O1 := O1.same Bb
    refine ⟨sl_of (show 2 ≤ 1000000 by decide), fun P1 m6 => ?_⟩
    have b5 := same_new m6 (o := HO.lst [V.ref o1, V.ref o2])
    have O1 := O1.same b5
    have O2 := O2.same b5
    have B5 := Bb.trans b5
    have hS5 := hS3.same B5
    have hSa5 := B5 _ _ hSa3
    have pen5 := pen3.same B5
    have kA5 := kA3.trans (Same.kp B5)
    have hP1 := new_at m6 (o := HO.lst [V.ref o1, V.ref o2])
    -- the third
    refine ⟨_, rfl, _, rfl, _, rfl, sl_of (show 3 ≤ 1000000 by decide), fun t6 n6 => ?_⟩
    have c1 := same_new n6 (o := HO.tup [V.str "repeat", V.int ((10 : Int) ^ Int.toNat 30 - r), V.ref S])
    refine ⟨sl_of (show 1 ≤ 1000000 by decide), fun l6 m7 => ?_⟩
    have c2 := same_new m7 (o := HO.lst [V.ref t6])
    have R6 := rp n6 m7 hSa5 hS5 fs (by decide) (by decide) LN hN9 hNb
    refine ⟨sl_of (show 3 ≤ 1000000 by decide), fun t7 n7 => ?_⟩
    have c3 := same_new n7 (o := HO.tup [V.str "repeat", V.int 0, V.ref l6])
    refine ⟨sl_of (show 1 ≤ 1000000 by decide), fun o3 m8 => ?_⟩
    have c4 := same_new m8 (o := HO.lst [V.ref t7])
    have O3 := (rp n7 m8 upd_same R6.2.2 R6.2.1 (by decide) (by decide) (Int.le_refl 0) (by decide) (by decide)).1
    have Cc := c1.trans (c2.trans (c3.trans c4))
    -- the fourth
    refine ⟨_, rfl, _, rfl, Nat.zero_le _, fun e2 ne2 => ?_⟩
    have d1 := same_new ne2 (o := HO.lst [])
    refine ⟨sl_of (show 3 ≤ 1000000 by decide), fun t8 n8 => ?_⟩
    have d2 := same_new n8 (o := HO.tup [V.str "repeat", V.int ((10 : Int) ^ Int.toNat 30 - r), V.ref e2])
    refine ⟨sl_of (show 1 ≤ 1000000 by decide), fun l8 m9 => ?_⟩
    have d3 := same_new m9 (o := HO.lst [V.ref t8])
    have R8 := rp n8 m9 (b := []) (d := 0) (e := 0) upd_same .nil prR_nil (by decide) (by decide) LN hN9 hNb
    refine ⟨sl_of (show 3 ≤ 1000000 by decide), fun t9 n9 => ?_⟩
    have d4 := same_new n9 (o := HO.tup [V.str "repeat", V.int ((10 : Int) ^ Int.toNat 30 - r), V.ref l8])
    refine ⟨sl_of (show 1 ≤ 1000000 by decide), fun o4 m10 => ?_⟩
    have d5 := same_new m10 (o := HO.lst [V.ref t9])
    have O4 := (rp n9 m10 upd_same R8.2.2 R8.2.1 (by decide) (by decide) LN hN9 hNb).1
    have Dd := d1.trans (d2.trans (d3.trans (d4.trans d5)))
    refine ⟨sl_of (show 2 ≤ 1000000 by decide), fun P2 m11 => ?_⟩
    have d6 := same_new m11 (o := HO.lst [V.ref o3, V.ref o4])
    refine ⟨P1, P2, _, _, rfl, rfl, (Cc.trans (Dd.trans d6)) _ _ hP1, upd_same, sl_of (show 2 + 2 ≤ 1000000 by decide), fun P3 m12 => ?_⟩
    have d7 := same_new m12 (o := HO.lst ([V.ref o1, V.ref o2] ++ [V.ref o3, V.ref o4]))
    have All := Cc.trans (Dd.trans (d6.trans d7))
    have O1 := O1.same All
    have O2 := O2.same All
    have O3 := O3.same (Dd.trans (d6.trans d7))
    have O4 := O4.same (d6.trans d7)
    have pen7 := pen5.same All
    have hS7 := hS5.same All
    have hSa7 := All _ _ hSa5
    have kA7 := kA5.trans (Same.kp All)
    refine ⟨_, rfl, _, rfl, _, rfl, p, c, P3, _, [V.ref o1, V.ref o2] ++ [V.ref o3, V.ref o4], rfl, pen7, by omega, upd_same, (show 0 < 4 by decide), (show 4 ≤ 100000 by decide), fun v H8 hv k8 pen8 => ?_⟩
    have hv : OptAt K H8 v := by
      rcases List.mem_cons.mp hv with rfl | hv
      · exact O1.kp pen7 k8
      rcases List.mem_cons.mp hv with rfl | hv
      · exact O2.kp pen7 k8
      rcases List.mem_cons.mp hv with rfl | hv
      · exact O3.kp pen7 k8
      rcases List.mem_cons.mp hv with rfl | hv
      · exact O4.kp pen7 k8
      exact absurd hv List.not_mem_nil
    obtain ⟨x, xs, b, rfl, hx, hxI, hxP⟩ := hv
    have hS8 := hS7.kp pen7 k8
    have hSa8 := kp_lst pen7 k8 hSa7
    have lx : xs.length ≤ 1000 := by
      have h1 := hxI.len
      have h2 := len_cnP b
      have h3 := hxP.ok.cn
      omega
    refine ⟨S, x, _, _, rfl, rfl, hSa8, hx, sl_of (show 2 + xs.length ≤ 1000000 by omega), fun J nJ => ?_⟩
    have f1 := same_new nJ (o := HO.lst ([V.ref t1, V.ref t2] ++ xs))
    refine ⟨_, rfl, J, S, _, _, rfl, rfl, upd_same, f1 _ _ hSa8, sl_of (show ([V.ref t1, V.ref t2] ++ xs).length + 2 ≤ 1000000 by rw [List.length_append]; show 2 + xs.length + 2 ≤ 1000000; omega), fun F nF => ?_⟩
    have f2 := same_new nF (o := HO.lst (([V.ref t1, V.ref t2] ++ xs) ++ [V.ref t1, V.ref t2]))
    have ff := f1.trans f2
    exact k F _ _ _ (kA7.trans (k8.trans (Same.kp ff))) ((pen8.same ff).mono (by omega)) upd_same (IVs.app (IVs.app (hS8.same ff) (hxI.same ff)) (hS8.same ff)) (((fs.app hxP).app fs).up (by decide) (by decide))
theorem sc__law_spread : FnScope ["_law_offset", "_law_rounds", "_law_places", "_law_count", "_law_stride", "_law_wider", "_law_k", "_law_place"] ["_law_offset", "_law_rounds"] (defScope s__law_spread) := ⟨rfl, rfl, rfl, by decide +kernel, rfl, by decide +kernel, by decide +kernel⟩
theorem ok__law_spread {f : Addr} {fd : FuncData} (F : Fun K "_law_spread" "_law_spread" s__law_spread f fd) (B : Blt mg) : FnOk P w K mg base CX0 1 f fd ["_law_offset", "_law_rounds"] (sp__law_spread K) := by
  refine F.ok sc__law_spread (fun vs H Q E h => ?_) (fun cdv A outer s H vs Q E hr h => ?_)
  · obtain ⟨off, x, rs, rfl, _⟩ := h
    rfl
  · obtain ⟨off, x, rs, rfl, ⟨ax, xs, rfl, hxs, hP⟩, hpos, hn, k⟩ := h
    have nd := sc__law_spread.nd
    refine ⟨_, (pss_cons (ps_set (i := 2) nd rfl (.inl rfl) (pe_lst (pa_cons (pv 0) pa_nil)))
    (pss_cons (ps_for PassesOwn.never rfl (pi_tup (pv 1)) (pg_tup rfl (pgs_cons (pg_name (i := 3) nd rfl (.inl rfl)) (pgs_cons (pg_name (i := 4) nd rfl (.inr rfl)) pgs_nil)))
      (pss_cons (ps_set (i := 5) nd rfl (.inl rfl) (pe_lst pa_nil))
    (pss_cons (ps_for PassesOwn.never rfl (pi_range1 (by rfl) B.range (pa_cons (pv 3) pa_nil)) (pg_name (i := 6) nd rfl (.inr rfl))
      (pss_one (ps_expr (pe_bm PySem.F.plainAttrs_list PySem.F.slot_list_extend PySem.F.type_list_extend mt_extend (pv 5) (pa_cons (pe_lc (own := [("_law_place", 7)]) (by rfl) nd (pi_list (pv 2)) (blkOk_by (N := ["_law_offset", "_law_rounds", "_law_places", "_law_count", "_law_stride", "_law_wider", "_law_k", "_law_place"]) (sc := defScope s__law_spread) (own := [("_law_place", 7)]) (by decide +kernel)) (fun _ _ _ _ _ => (pg_name (i := 7) nd rfl (.inl rfl))) (fun _ _ _ _ _ => pts_nil) (fun _ _ _ _ _ => (pe_op op_add (pv 7) (pe_op op_mul (pv 6) (pv 4))))) pa_nil)))))
    (pss_one (ps_set (i := 2) nd rfl (.inl rfl) (pv 5))))))
    (pss_one (ps_ret (pv 2))))), ?_⟩
    refine ⟨_, rfl, sl_of (show 1 ≤ 1000000 by decide), fun D0 nD0 => ?_⟩
    have s1 := same_new nD0 (o := HO.lst [V.int off])
    refine ⟨_, rfl, ax, rfl, ⟨_, same_t s1 hxs⟩, for_tup (K := K) (a := ax) (xs := xs) (fun j σ H2 => ∃ (D : Addr) (zs : List Int) (y3 y4 y5 y6 y7 : Option V), σ = [some (.int off), some (.ref ax), some (.ref D), y3, y4, y5, y6, y7] ∧ H D = none ∧ Same H H2 ∧ H2 D = some (.lst (zs.map V.int)) ∧ (zs.length : Int) = pn (rs.take j) ∧ ∀ y, hits zs y = wy (rs.take j) (y - off)) ⟨D0, [off], none, none, none, none, none, rfl, nD0, s1, upd_same, rfl, fun y => ?_⟩ ?_ ?_ ?_⟩
    · show (if off = y then (1 : Int) else 0) + 0 = if y - off = 0 then 1 else 0
      rw [Int.add_zero]
      by_cases e : off = y
      · rw [if_pos e, if_pos (by omega)]
      · rw [if_neg e, if_neg (by omega)]
    · rintro j σ H2 _ ⟨_, _, _, _, _, _, _, _, _, s2, _⟩
      exact same_t s2 hxs
    · rintro j x σ H2 hj ⟨D, zs, y3, y4, y5, y6, y7, rfl, nD, s2, hD, hl, hh⟩
      obtain ⟨r, hr, b, rfl, hb⟩ := hP.get hj
      have h1 := hpos r (List.mem_of_getElem? hr)
      have et : rs.take (j + 1) = rs.take j ++ [r] := take_snoc hr
      have hp1 := pn_take hpos (j + 1)
      have hp0 := pn_pos (rs := rs.take j) fun q hq => hpos q (List.mem_of_mem_take hq)
      have ep : pn (rs.take (j + 1)) = pn (rs.take j) * r.1 := by
        rw [et, pn_app]
        show _ * (r.1 * 1) = _
        rw [Int.mul_one]
      have hr9 : r.1 ≤ 10000 := by
        have := Int.mul_le_mul_of_nonneg_right hp0 (by omega : (0 : Int) ≤ r.1)
        omega
      refine ⟨b, _, rfl, same_t s2 hb, rfl, _, _, rfl, _, _, rfl, rfl, ?_⟩
      refine ⟨Nat.zero_le _, fun W nW => ?_⟩
      have s3 := same_new nW (o := HO.lst [])
      have nDW : D ≠ W := ne_of_none hD nW
      have nW0 : H W = none := Option.eq_none_iff_forall_ne_some.mpr fun o e => by
        rw [s2 _ _ e] at nW
        cases nW
      refine ⟨_, rfl, r.1, rfl, by omega, by omega, for_range (lo := 0) (n := r.1.toNat) (fun m σ H3 => ∃ (ws : List Int) (y6 : Option V), σ = [some (.int off), some (.ref ax), some (.ref D), some (.int r.1), some (.int r.2), some (.ref W), y6, y7] ∧ Same H H3 ∧ H3 D = some (.lst (zs.map V.int)) ∧ H3 W = some (.lst (ws.map V.int)) ∧ (ws.length : Int) = m * pn (rs.take j) ∧ ∀ y, hits ws y = rsum (fun d => wy (rs.take j) d) r.2 m (y - off)) ⟨[], y6, rfl, s2.trans s3, s3 _ _ hD, upd_same, by simp, fun y => rfl⟩ ?_ ?_⟩
      · rintro m σ H3 hm ⟨ws, y6', rfl, s4, hD3, hW3, hwl, hwh⟩
        have hm9 : (m : Int) + 1 ≤ r.1 := by omega
        have hml : ((m : Int) + 1) * pn (rs.take j) ≤ 10000 := by
          have := Int.mul_le_mul_of_nonneg_right hm9 (by omega : (0 : Int) ≤ pn (rs.take j))
          rw [Int.mul_comm r.1] at this
          omega
        rw [Int.add_mul, Int.one_mul] at hml
        have hm0 : 0 ≤ (m : Int) * pn (rs.take j) := Int.mul_nonneg (by omega) (by omega)
        refine ⟨_, rfl, .inl ⟨rfl, _, SqL.of hW3⟩, ?_⟩
        refine lcMapI (K := K) (ns := zs) (fun z => z + (m : Int) * r.2) (fun R g => ⟨_, rfl, g D H3 (Same.refl _) hD3⟩) (by omega) (fun x => rfl) (fun x hx H4 S g => ?_) fun D5 H5 s5 hD5 => ?_
        · refine ⟨_, rfl, _, rfl, _, rfl, _, _, rfl, rfl, .inl ⟨by omega, by omega⟩, _, _, rfl, rfl, ?_⟩
          rw [Int.zero_add]
          exact g
        · have hW5 := s5 _ _ hW3
          refine ⟨W, D5, _, _, rfl, rfl, hW5, hD5, sl_of (by rw [List.length_map, List.length_map, List.length_map]; omega), ws ++ zs.map (fun z => z + (m : Int) * r.2), _, rfl, same_mut (s4.trans s5) nW0, ?_, ?_, ?_, fun y => ?_⟩
          · rw [upd_ne nDW]
            exact s5 _ _ hD3
          · rw [upd_same, List.map_append]
          · rw [List.length_append, List.length_map]
            push_cast
            rw [Int.add_mul, Int.one_mul]
            omega
          · rw [hits_app, hwh, rsum_hits zs (rs.take j) off r.2 hh m y]
      · rintro σ H3 ⟨ws, y6', rfl, s4, hD3, hW3, hwl, hwh⟩
        refine ⟨_, rfl, W, ws, _, _, _, _, _, rfl, nW0, s4, hW3, ?_, fun y => ?_⟩
        · rw [hwl, ep, Int.toNat_of_nonneg (by omega), Int.mul_comm]
        · rw [hwh, et, wy_snoc]
    · rintro σ H2 ⟨D, zs, y3, y4, y5, y6, y7, rfl, nD, s2, hD, hl, hh⟩
      rw [hP.len, List.take_length] at hl hh
      exact ⟨_, rfl, k D zs H2 s2 nD hD hl hh⟩
theorem sc_law : FnScope ["_law_script", "_law_pen_here", "_law_turn", "_law_prime_here", "_law_program", "_law_passed", "_law_many", "_law_kept", "_law_due", "_law_pairs", "_law_factor", "_law_offset", "_law_rounds", "_law_place"] ["_law_script"] (defScope s_law) := ⟨rfl, rfl, rfl, by decide +kernel, rfl, by decide +kernel, by decide +kernel⟩
theorem fits_l1 {n k : Nat} {d : PyData} (h : Fits n k d) : Fits (n + 2 + 3 + n) (k + 1) (.list [d]) := (fits_listN (m := n) (j := k) (ds := [d]) fun x hx => by
  rw [List.mem_singleton.mp hx]
  exact h).up (by show n * 1 + 2 * 1 + 3 ≤ _; omega) (Nat.le_refl _)
theorem fits_ed {g : Pol} {n : Int} (h : Sm g) (hn : n.natAbs < 10 ^ 100) : Fits (211 * g.length + 200) 3 (ed g n) := (fits_2 (fits_pd h) (fits_int hn)).up (by omega) (by decide)
theorem law_ok {f : Addr} {fd : FuncData} (F : Fun K "law" "law" s_law f fd) (B : Blt mg) (C__law_pen : Cal P w K mg base 1 "_law_pen" (sp__law_pen K)) (C__law_prime : Cal P w K mg base 3 "_law_prime" sp__law_prime) (C__law_near_limit : Cal P w K mg base 3 "_law_near_limit" (sp__law_near_limit K)) (C__law_idle : Cal P w K mg base 3 "_law_idle" (sp__law_near_limit K)) (C__law_full_program : Cal P w K mg base 3 "_law_full_program" (sp__law_full_programR K)) (C__law_handed : Cal P w K mg base (3 + 1) "_law_handed" (sp__law_handed K 3)) (C__law_executed : Cal P w K mg base (3 + 0) "_law_executed" (sp__law_executed K 3))
    (C__law_terms : Cal P w K mg base (3 + 3) "_law_terms" (sp__law_termsN K 3)) (C__law_spread : Cal P w K mg base 1 "_law_spread" (sp__law_spread K)) (C__law_normal : Cal P w K mg base 1 "_law_normal" (sp_normalize K)) (C__law_shift : Cal P w K mg base (3 + 0) "_law_shift" (sp__law_shift K 3)) (C__law_outcome : Cal P w K mg base 5 "_law_outcome" (sp__law_outcome K)) : Kept P w K mg base f fd ["_law_script"] (sp_law K) := by
  refine kept_of (k := 6) F sc_law (fun vs H Q E h => ?_) ⟨rfl, by decide, by decide⟩ (fun cdv s H vs Q E hr h => ?_)
  · obtain ⟨a, ns, rfl, _⟩ := h
    rfl
  · obtain ⟨a, ns, rfl, hS, hlen, k⟩ := h
    have nd := sc_law.nd
    have hu2 := hr.units
    have hg : (callerA.deeper (envOfC "law" (defScope s_law) s.heap.objs.size f cdv)).guards = some [] := rfl
    have hu0 : (callerA.deeper (envOfC "law" (defScope s_law) s.heap.objs.size f cdv)).units + 100 < cLine := by
      have := hr.un
      omega
    refine ⟨_, (pss_cons (ps_set (i := 1) nd rfl (.inl rfl) (pe_c C__law_pen hr (by decide) (by rfl) (pa_cons (pv 0) pa_nil)))
    (pss_cons (ps_for PassesOwn.never rfl (pi_range1 (by rfl) B.range (pa_cons pe_int pa_nil)) (pg_name (i := 2) nd rfl (.inl rfl))
      (pss_cons (ps_set (i := 3) nd rfl (.inl rfl) (pe_c C__law_prime hr (by decide) (by rfl) (pa_cons (pv 1) pa_nil)))
    (pss_cons (ps_cut (ps_set (i := 4) nd rfl (.inl rfl) (pe_ifExp (pt_cmpR op_lt (pv 2) pe_int (nomark _)) (pe_c C__law_near_limit hr (by decide) (by rfl) (pa_cons (pv 1) pa_nil)) (pe_ifExp (pt_cmpR op_lt (pv 2) pe_int (nomark _)) (pe_c C__law_idle hr (by decide) (by rfl) (pa_cons (pv 1) pa_nil)) (pe_c C__law_full_program hr (by decide) (by rfl) (pa_cons (pv 1) pa_nil))))))
    (pss_cons (ps_par (i := 5) (j := 6) (by rfl) nd rfl rfl (by decide) rfl rfl (pa_cons (pe_c C__law_handed hr (by decide) (by rfl) (pa_cons (pv 1) (pa_cons (pv 4) pa_nil))) (pa_cons (pe_c C__law_executed hr (by decide) (by rfl) (pa_cons (pv 4) pa_nil)) pa_nil)) (by rfl))
    (pss_cons (ps_par (i := 7) (j := 8) (by rfl) nd rfl rfl (by decide) rfl rfl (pa_cons (pe_callB (call_reprX hg hu0) (by rfl) B.repr (by decide +kernel) (pa_cons (pv 5) pa_nil)) (pa_cons pe_int pa_nil)) (by rfl))
    (pss_cons (ps_cut (ps_if (pt_cmpR op_le (pv 6) pe_int (nomark _))
      (pss_cons (ps_set (i := 9) nd rfl (.inl rfl) (pe_lst pa_nil))
    (pss_cons (ps_for PassesOwn.never rfl (pi_list (pe_c C__law_terms hr (by decide) (by rfl) (pa_cons (pv 4) pa_nil))) (pg_tup rfl (pgs_cons (pg_name (i := 10) nd rfl (.inr rfl)) (pgs_cons (pg_name (i := 11) nd rfl (.inl rfl)) (pgs_cons (pg_name (i := 12) nd rfl (.inl rfl)) pgs_nil))))
      (pss_one (ps_expr (pe_bm PySem.F.plainAttrs_list PySem.F.slot_list_extend PySem.F.type_list_extend mt_extend (pv 9) (pa_cons (pe_lc (own := [("_law_place", 13)]) (by rfl) nd (pi_list (pe_c C__law_spread hr (by decide) (by rfl) (pa_cons (pv 11) (pa_cons (pv 12) pa_nil)))) (blkOk_by (N := ["_law_script", "_law_pen_here", "_law_turn", "_law_prime_here", "_law_program", "_law_passed", "_law_many", "_law_kept", "_law_due", "_law_pairs", "_law_factor", "_law_offset", "_law_rounds", "_law_place"]) (sc := defScope s_law) (own := [("_law_place", 13)]) (by decide +kernel)) (fun _ _ _ _ _ => (pg_name (i := 13) nd rfl (.inl rfl))) (fun _ _ _ _ _ => pts_nil) (fun _ _ _ _ _ => (pe_tup (pa_cons (pv 13) (pa_cons (pv 10) pa_nil))))) pa_nil)))))
    (pss_one (ps_set (i := 8) nd rfl (.inl rfl) (pe_lst (pa_cons (pe_tup (pa_cons (pe_c C__law_normal hr (by decide) (by rfl) (pa_cons (pv 3) (pa_cons (pv 9) pa_nil))) (pa_cons (pe_c C__law_shift hr (by decide) (by rfl) (pa_cons (pv 4) pa_nil)) pa_nil))) pa_nil))))))
      pss_nil))
    (pss_one (ps_if (PW.pt (pw_or (pt_cmpR op_ne (pe_callB (call_reprX hg hu0) (by rfl) B.repr (by decide +kernel) (pa_cons (pe_c C__law_outcome hr (by decide) (by rfl) (pa_cons (pv 3) (pa_cons (pv 5) pa_nil))) pa_nil)) (pe_callB (call_reprX hg hu0) (by rfl) B.repr (by decide +kernel) (pa_cons (pv 8) pa_nil)) (nomark _)) (pw_or1 (pt_cmpR op_ne (pe_callB (call_reprX hg hu0) (by rfl) B.repr (by decide +kernel) (pa_cons (pv 5) pa_nil)) (pv 7) (nomark _)))))
      (pss_one (ps_ret pe_bl))
      pss_nil))))))))
    (pss_one (ps_ret pe_bl)))), ?_⟩
    refine ⟨_, rfl, a, ns, rfl, hS, fun p c H1 np s1 pen1 => ?_⟩
    refine ⟨4, rfl, by decide, by decide, for_range (lo := 0) (n := 4) (fun i σ H2 => ∃ (y2 y3 y4 y5 y6 y7 y8 y9 y10 y11 y12 y13 : Option V), σ = [some (.ref a), some (.ref p), y2, y3, y4, y5, y6, y7, y8, y9, y10, y11, y12, y13] ∧ PenAt H2 p c (3000 * i)) ⟨none, none, none, none, none, none, none, none, none, none, none, none, rfl, pen1⟩ ?_ ?_⟩
    · rintro i σ H2 hi ⟨y2, y3, y4, y5, y6, y7, y8, y9, y10, y11, y12, y13, rfl, pen2⟩
      refine ⟨_, rfl, p, c, _, rfl, pen2, by omega, fun q H3 hq k3 pen3 => ?_⟩
      obtain ⟨hq1, hq9⟩ := prime_rng q hq
      -- the program
      refine ⟨fun σ H' => ∃ (G : Addr) (xs : List V) (b : List Ins), σ = [some (.ref a), some (.ref p), some (.int (0 + (i : Int))), some (.int q), some (.ref G), y5, y6, y7, y8, y9, y10, y11, y12, y13] ∧ PenAt H' p c (3000 * i + 600) ∧ H' G = some (.lst xs) ∧ IVs K H' xs b ∧ PrR b 2 1000 (10 ^ 31), ?_, ?_⟩
      · have fin : ∀ (G : Addr) (xs : List V) (b : List Ins) (H' : Hp) (m : Nat), m ≤ 3000 * i + 600 → PenAt H' p c m → H' G = some (.lst xs) → IVs K H' xs b → PrR b 2 1000 (10 ^ 31) → ∃ (G' : Addr) (xs : List V) (b : List Ins), [some (V.ref a), some (.ref p), some (.int (0 + (i : Int))), some (.int q), some (.ref G), y5, y6, y7, y8, y9, y10, y11, y12, y13] = [some (.ref a), some (.ref p), some (.int (0 + (i : Int))), some (.int q), some (.ref G'), y5, y6, y7, y8, y9, y10, y11, y12, y13] ∧ PenAt H' p c (3000 * i + 600) ∧ H' G' = some (.lst xs) ∧ IVs K H' xs b ∧ PrR b 2 1000 (10 ^ 31) :=
          fun G xs b H' m hm pen hG hI ok => ⟨G, xs, b, rfl, pen.mono hm, hG, hI, ok⟩
        refine ⟨_, rfl, _, 2, rfl, rfl, _, rfl, ite2 (fun _ => ?_) fun _ => ?_⟩
        · exact ⟨_, rfl, p, c, _, rfl, pen3, by omega, fun G xs b H4 k4 pen4 hG hI ok => fin G xs b H4 _ (by omega) pen4 hG hI ok⟩
        · refine ⟨_, rfl, _, 3, rfl, rfl, _, rfl, ite2 (fun _ => ?_) fun _ => ?_⟩
          · exact ⟨_, rfl, p, c, _, rfl, pen3, by omega, fun G xs b H4 k4 pen4 hG hI ok => fin G xs b H4 _ (by omega) pen4 hG hI ok⟩
          · exact ⟨_, rfl, p, c, _, rfl, pen3, by omega, fun G xs b H4 k4 pen4 hG hI ok => fin G xs b H4 _ (by omega) pen4 hG hI ok⟩
      · rintro σ H4 ⟨G, xs, b, rfl, pen4, hG, hI, okR⟩
        have ok := okR.ok
        have hcn : cnP b ≤ 1024 := Nat.le_trans ok.cn (by decide)
        have hlb : b.length ≤ 1024 := Nat.le_trans (len_cnP b) hcn
        have hdp : dpP b < 3 := by have := ok.dp; omega
        have hpv : PV K H4 (.ref G) b := pv_list (SqL.of hG) hI
        refine ⟨_, rfl, _, rfl, p, c, .ref G, b, _, rfl, hpv, hdp, ok.cn, pen4, by have := ok.cn; omega, fun u H5 k5 pen5 hu => ?_⟩
        have pen5 := pen5.mono (m := 3000 * i + 2000) (by have := ok.cn; omega)
        have hu5 : PV K H5 u b := hu.same (er_sub _ _)
        have hG5 := hpv.kp pen4 k5
        refine ⟨_, rfl, .ref G, b, rfl, hG5, hdp, by decide, ok.w, hlb, fun H6 s6 => ?_⟩
        have hu6 := hu5.same s6
        have hG6 := hG5.same s6
        have pen6 := pen5.same s6
        obtain ⟨d, hd, hp⟩ := id hu6
        have fd := isP_fits hp ok.w
        have g1 : d.hasDict = true → d = .dict [] := fun z => by rw [fd.nd] at z; cases z
        have gd2 : d.depth ≤ 64 := Nat.le_trans fd.dp (by omega)
        have g3 : d.shown.length ≤ sizeLine := sl_of (Nat.le_trans fd.ln (by have := ok.cn; omega))
        have hsb : (shP b).natAbs < 10 ^ 100 := Nat.lt_of_lt_of_le (sh_lt hdp (by decide) ok.w hlb) (by decide +kernel)
        refine ⟨_, _, rfl, _, rfl, u, d, rfl, .inl hd, fd.sh, g1, gd2, g3, ?_⟩
        refine ⟨_, _, rfl, ?_⟩
        -- what is due
        refine ⟨fun σ H' => ∃ (x : V) (y9 y10 y11 y12 y13 : Option V), σ = [some (.ref a), some (.ref p), some (.int (0 + (i : Int))), some (.int q), some (.ref G), some u, some (.int (exP b)), some (.str d.shown), some x, y9, y10, y11, y12, y13] ∧ Same H6 H' ∧ ((exP b ≤ 10000 ∧ ∃ D e g, x = .ref D ∧ H' D = some (.lst [e]) ∧ TEff K H' e g (shP b) ∧ Nf q g (seP b) ∧ g.length ≤ 10000) ∨ (10000 < exP b ∧ x = .int 10000)), ?_, ?_⟩
        · refine ⟨_, rfl, _, 10000, rfl, rfl, _, rfl, ite2 (fun few => ?_) fun big => ?_⟩
          · have few : exP b ≤ 10000 := of_decide_eq_true few
            refine ⟨Nat.zero_le _, fun L nL => ?_⟩
            have s7 := same_new nL (o := HO.lst [])
            refine ⟨_, rfl, .ref G, b, rfl, hG6.same s7, hdp, by decide, ok.w, okR.nn, hcn, fun T ys ts H8 s8 nT hT hTs htv hok hlen hN => ?_⟩
            have nLT : L ≠ T := ne_of_none upd_same nT
            have hL8 := s8 _ _ (new_at nL (o := HO.lst []))
            have hpos : ∀ t ∈ ts, ∀ r ∈ t.rs, 1 ≤ r.1 := fun t ht r hr => ((hok t ht).rs r hr).1
            refine ⟨T, rfl, ⟨_, SqL.of hT⟩, for_list (K := K) (a := T) (xs := ys) (fun j σ H' => ∃ (zs : List V) (ps : Pol) (y10 y11 y12 y13 : Option V), σ = [some (.ref a), some (.ref p), some (.int (0 + (i : Int))), some (.int q), some (.ref G), some u, some (.int (exP b)), some (.str d.shown), some (.int 10000), some (.ref L), y10, y11, y12, y13] ∧ Same H6 H' ∧ H' T = some (.lst ys) ∧ LTVs K H' ys ts ∧ H' L = some (.lst zs) ∧ Prs K H' zs ps ∧ (ps.length : Int) = tmN (ts.take j) ∧ ∀ x, cf ps x = tvs (ts.take j) x) ⟨[], [], _, _, _, _, rfl, s7.trans s8, hT, hTs, hL8, .nil, by rw [List.take_zero]; rfl, fun x => by rw [List.take_zero]; rfl⟩ ?_ ?_ ?_⟩
            · rintro j σ H9 _ ⟨_, _, _, _, _, _, _, _, hT9, _⟩
              exact SqL.of hT9
            · rintro j x σ H9 hj ⟨zs, ps, y10, y11, y12, y13, rfl, s9, hT9, hTs9, hL9, hP9, hl9, hc9⟩
              obtain ⟨t, ht, e0, xr, rfl, he0, hxr⟩ := hTs9.get hj
              have htm := List.mem_of_getElem? ht
              have hpn : pn t.rs ≤ 10000 := by
                have h1 := tmN_take hpos (j + 1)
                rw [tmN_snoc ht] at h1
                have h2 := tmN_take (ts := ts.take j) (fun t ht => hpos t (List.mem_of_mem_take ht)) 0
                rw [List.take_zero] at h2
                have h2 : (0 : Int) ≤ tmN (ts.take j) := h2
                omega
              refine ⟨e0, _, rfl, he0, rfl, _, _, rfl, _, _, rfl, _, _, rfl, rfl, ?_⟩
              refine ⟨_, rfl, .inl ⟨rfl, _, SqL.of hL9⟩, ?_⟩
              refine lcPairI (K := K) (fun ns => (ns.length : Int) = pn t.rs ∧ ∀ y, hits ns y = wy t.rs (y - t.pl)) (fun z => (z, t.co)) (fun R g => ⟨_, rfl, _, rfl, t.pl, xr, t.rs, rfl, hxr, hpos t htm, hpn, fun D ns H10 s10 _ hD hl hh => g D H10 ns ⟨hl, hh⟩ s10 hD⟩) (fun ns h => by have := h.1; omega) (fun x => rfl) (fun x H10 S g => ?_) fun D xs ns H10 h s10 nD hD hPD => ?_
              · exact ⟨_, rfl, _, rfl, sl_of (show 2 ≤ 1000000 by decide), fun q0 nq0 => g q0 nq0⟩
              · have hL10 := s10 _ _ hL9
                have hlz := hP9.len
                have hlx := hPD.len
                rw [List.length_map] at hlx
                have h1 := h.1
                have htk := tmN_take hpos j
                refine ⟨L, D, _, _, rfl, rfl, hL10, hD, sl_of (by omega), zs ++ xs, ps ++ ns.map (fun z => (z, t.co)), _, _, _, _, rfl, same_mut (s9.trans s10) nL, ?_, hTs9.tp ((Same.tp s10).trans (tp_lst hL10)), upd_same, ?_, ?_, fun x => ?_⟩
                · rw [upd_ne nLT.symm]
                  exact s10 _ _ hT9
                · exact Prs.app (Prs.tp ((Same.tp s10).trans (tp_lst hL10)) hP9) (Prs.tp (tp_lst hL10) hPD)
                · rw [tmN_snoc ht, List.length_append, List.length_map]
                  omega
                · rw [cf_append, hc9, tvs_snoc ht, cf_hits, h.2]
                  rfl
            · rintro σ H9 ⟨zs, ps, y10, y11, y12, y13, rfl, s9, hT9, hTs9, hL9, hP9, hl9, hc9⟩
              have hly := hTs9.len
              rw [hly, List.take_length] at hl9 hc9
              refine ⟨_, rfl, _, rfl, q, .ref L, ps, rfl, by omega, .inr ⟨L, zs, rfl, SqL.of hL9, hP9⟩, by omega, fun e H10 g s10 hTg hNg => ?_⟩
              refine ⟨_, rfl, .ref G, b, rfl, (hG6.same s9).same s10, hdp, by decide, ok.w, hlb, fun H11 s11 => ?_⟩
              refine ⟨sl_of (show 2 ≤ 1000000 by decide), fun t1 nt1 => ?_⟩
              have z1 := same_new nt1 (o := HO.tup [e, V.int (shP b)])
              refine ⟨sl_of (show 1 ≤ 1000000 by decide), fun D nD => ?_⟩
              have z2 := same_new nD (o := HO.lst [V.ref t1])
              have hlg := hNg.len (L := ps.map (·.1)) fun x hx => by rw [cf_out hx]; rfl
              rw [List.length_map] at hlg
              refine ⟨.ref D, _, _, _, _, _, rfl, s9.trans (s10.trans (s11.trans (z1.trans z2))), .inl ⟨few, D, .ref t1, g, rfl, upd_same, ⟨t1, e, rfl, same_t z2 (SqT.of upd_same), hTg.tp (Same.tp (s11.trans (z1.trans z2)))⟩, hNg.to fun x => ?_, by omega⟩⟩
              rw [hc9, htv]
          · have big : 10000 < exP b := Int.not_le.mp fun z => big (decide_eq_true z)
            exact ⟨.int 10000, _, _, _, _, _, rfl, Same.refl _, .inr ⟨big, rfl⟩⟩
        · rintro σ H7 ⟨x, y9, y10, y11, y12, y13, rfl, s7, hx⟩
          have hu7 := hu6.same s7
          have pen7 := pen6.same s7
          have last : ∀ (x' : V) (H8 : Hp), Same H7 H8 → ∃ (y2 y3 y4 y5 y6 y7 y8 y9' y10' y11' y12' y13' : Option V), [some (V.ref a), some (.ref p), some (.int (0 + (i : Int))), some (.int q), some (.ref G), some u, some (.int (exP b)), some (.str d.shown), some x, y9, y10, y11, y12, y13] = [some (.ref a), some (.ref p), y2, y3, y4, y5, y6, y7, y8, y9', y10', y11', y12', y13'] ∧ PenAt H8 p c (3000 * (i + 1)) :=
            fun _ H8 s8 => ⟨_, _, _, _, _, _, _, _, _, _, _, _, rfl, (pen7.same s8).mono (by omega)⟩
          rcases hx with ⟨few, D, e, g, rfl, hD, hTe, hNe, hge⟩ | ⟨big, rfl⟩
          · have sm := se_sm hNe hq9 ok.dp ok.w hlb okR.nn (by omega)
            have fe := fits_l1 (fits_ed sm hsb)
            have w1 : (PyData.list [ed g (shP b)]).hasDict = true → PyData.list [ed g (shP b)] = .dict [] := fun z => by rw [fe.nd] at z; cases z
            have w2 : (PyData.list [ed g (shP b)]).depth ≤ 64 := Nat.le_trans fe.dp (by decide)
            have w3 : (PyData.list [ed g (shP b)]).shown.length ≤ sizeLine := by
              rw [sizeLine_eq]
              have := fe.ln
              omega
            refine ⟨_, rfl, _, rfl, q, u, b, rfl, by omega, hu7, hdp, ok.w, hlb, okR.nn, fun _ D2 e2 H8 g2 s8 hD2 hT2 hN2 hg2 => ?_, fun z => absurd z (by omega)⟩
            obtain rfl : g2 = g := hN2.uniq hNe fun _ => rfl
            refine ⟨.ref D2, _, rfl, .inl (.lst (SqL.of hD2) (.cons hT2.dp .nil)), fe.sh, w1, w2, w3, ?_⟩
            refine ⟨_, rfl, .ref D, _, rfl, .inl (.lst (SqL.of (s8 _ _ hD)) (.cons (hTe.same s8).dp .nil)), fe.sh, w1, w2, w3, ?_⟩
            refine ⟨rfl, _, rfl, iteNS rfl ?_⟩
            refine ⟨_, rfl, u, d, rfl, .inl (Dp.same (s7.trans s8) hd), fd.sh, g1, gd2, g3, ?_⟩
            refine ⟨_, rfl, rfl, _, rfl, iteNS rfl ?_⟩
            exact last (.ref D) H8 s8
          · have fe : Shw (.int 10000) := shw_of (by decide +kernel)
            refine ⟨_, rfl, _, rfl, q, u, b, rfl, by omega, hu7, hdp, ok.w, hlb, okR.nn, fun z => absurd z (by omega), fun _ H8 s8 => ?_⟩
            refine ⟨.int 10000, _, rfl, .inl (.int _), fe.sh, fe.nd, fe.dp, fe.ln, ?_⟩
            refine ⟨_, rfl, .int 10000, _, rfl, .inl (.int _), fe.sh, fe.nd, fe.dp, fe.ln, ?_⟩
            refine ⟨rfl, _, rfl, iteNS rfl ?_⟩
            refine ⟨_, rfl, u, d, rfl, .inl (Dp.same (s7.trans s8) hd), fd.sh, g1, gd2, g3, ?_⟩
            refine ⟨_, rfl, rfl, _, rfl, iteNS rfl ?_⟩
            exact last (.int 0) H8 s8
    · rintro σ H2 ⟨y2, y3, y4, y5, y6, y7, y8, y9, y10, y11, y12, y13, rfl, _⟩
      exact k H2
end
theorem all_mk {l : PySem.W.OpenLaw} {w : World} {K : PySem.W.Frag} {mg : Str → Option Value} {fa : Addr} (hfa : mg "law" = some (.ref fa)) (B : Blt mg)
    (D_from_sums : Df K mg "from_sums" s_from_sums)
    (D_executed : Df K mg "executed" s_executed)
    (D_unrolled : Df K mg "unrolled" s_unrolled)
    (D_effect_of : Df K mg "effect_of" s_effect_of)
    (D__law_pen : Df K mg "_law_pen" s__law_pen)
    (D__law_draw : Df K mg "_law_draw" s__law_draw)
    (D__law_pick : Df K mg "_law_pick" s__law_pick)
    (D__law_prime : Df K mg "_law_prime" s__law_prime)
    (D__law_integer : Df K mg "_law_integer" s__law_integer)
    (D__law_normal : Df K mg "_law_normal" s__law_normal)
    (D__law_handed : Df K mg "_law_handed" s__law_handed)
    (D__law_shift : Df K mg "_law_shift" s__law_shift)
    (D__law_executed : Df K mg "_law_executed" s__law_executed)
    (D__law_full_program : Df K mg "_law_full_program" s__law_full_program)
    (D__law_terms : Df K mg "_law_terms" s__law_terms)
    (D__law_outcome : Df K mg "_law_outcome" s__law_outcome)
    (D__law_near_limit : Df K mg "_law_near_limit" s__law_near_limit)
    (D__law_idle : Df K mg "_law_idle" s__law_idle)
    (D__law_spread : Df K mg "_law_spread" s__law_spread)
    (G_LONGEST_RUN : ∃ u, mg "LONGEST_RUN" = some u ∧ ∃ tk, u = Value.int 10000 tk)
    (ZY : ∃ C CD, LimRaw K mg C ∧ IsL K mg C CD)
    (D_law : Df K mg "law" s_law) : ∃ fd : FuncData, (∀ (s : Shared) (v : Value), BindsTo s fd ⟨[v], []⟩ [("_law_script", v)]) ∧ ∀ base : Heap, K.In base → base.Ns mainGlobals mg → Kept l.prog w K mg base fa fd ["_law_script"] (sp_law K) := by
  obtain ⟨_, G_LONGEST_RUN, tk_G_LONGEST_RUN, rfl⟩ := G_LONGEST_RUN
  obtain ⟨C, CD, Z0, Y⟩ := ZY
  refine law_of hfa D_law (fun _ _ _ _ _ _ s v => .of_eq rfl) fun base f fd F => ?_
  have Z : LimF l.prog w K mg base C := lim_of Z0
  have C_from_sums : Cal l.prog w K mg base 1 "from_sums" (sp_from_sums K) := cal_of (ps := ["prime", "sums"]) D_from_sums (fun _ _ _ _ _ _ us hl => match us, hl with | [_, _], _ => rfl) fun f fd F => ok_from_sums F B
  have C_executed : Cal l.prog w K mg base (3 + 0) "executed" (sp_executed K 3) := cal_rec (ps := ["program"]) 0 (sp := sp_executed K) D_executed (fun _ _ _ _ _ _ us hl => match us, hl with | [_], _ => rfl) (fun vs H Q E h => by obtain ⟨_, _, _, _, z, _⟩ := h; exact absurd z (Nat.not_lt_zero _)) (fun k C f fd F => ok_executed k C F B) 3
  have C_unrolled : Cal l.prog w K mg base (3 + 0) "unrolled" (sp_unrolled K 3) := cal_rec (ps := ["program"]) 0 (sp := sp_unrolled K) D_unrolled (fun _ _ _ _ _ _ us hl => match us, hl with | [_], _ => rfl) (fun vs H Q E h => by obtain ⟨_, _, _, _, z, _⟩ := h; exact absurd z (Nat.not_lt_zero _)) (fun k C f fd F => ok_unrolled k C F B) 3
  have C_effect_of : CalE l.prog w K mg base 4 "effect_of" (sp_effect_ofX K C) := cal_ofE (ps := ["prime", "program"]) D_effect_of (fun _ _ _ _ _ _ us hl => match us, hl with | [_, _], _ => rfl) fun f fd F => ok_effect_of F B (Z) G_LONGEST_RUN C_from_sums C_executed C_unrolled
  have C__law_pen : Cal l.prog w K mg base 1 "_law_pen" (sp__law_pen K) := cal_of (ps := ["_law_script"]) D__law_pen (fun _ _ _ _ _ _ us hl => match us, hl with | [_], _ => rfl) fun f fd F => ok__law_pen F B
  have C__law_draw : Cal l.prog w K mg base 1 "_law_draw" sp__law_draw := cal_of (ps := ["_law_pen_here", "_law_many"]) D__law_draw (fun _ _ _ _ _ _ us hl => match us, hl with | [_, _], _ => rfl) fun f fd F => ok__law_draw F B
  have C__law_pick : Cal l.prog w K mg base 2 "_law_pick" sp__law_pick := cal_of (ps := ["_law_pen_here", "_law_options"]) D__law_pick (fun _ _ _ _ _ _ us hl => match us, hl with | [_, _], _ => rfl) fun f fd F => ok__law_pick F B C__law_draw
  have C__law_prime : Cal l.prog w K mg base 3 "_law_prime" sp__law_prime := cal_of (ps := ["_law_pen_here"]) D__law_prime (fun _ _ _ _ _ _ us hl => match us, hl with | [_], _ => rfl) fun f fd F => ok__law_prime F B C__law_pick
  have C__law_integer : Cal l.prog w K mg base 2 "_law_integer" sp__law_integer := cal_of (ps := ["_law_pen_here", "_law_most"]) D__law_integer (fun _ _ _ _ _ _ us hl => match us, hl with | [_, _], _ => rfl) fun f fd F => ok__law_integer F B C__law_draw
  have C__law_normal : Cal l.prog w K mg base 1 "_law_normal" (sp_normalize K) := cal_of (ps := ["_law_prime_here", "_law_pairs"]) D__law_normal (fun _ _ _ _ _ _ us hl => match us, hl with | [_, _], _ => rfl) fun f fd F => ok__law_normal F B
  have C__law_handed : Cal l.prog w K mg base (3 + 1) "_law_handed" (sp__law_handed K 3) := cal_rec (ps := ["_law_pen_here", "_law_program"]) 1 (sp := sp__law_handed K) D__law_handed (fun _ _ _ _ _ _ us hl => match us, hl with | [_, _], _ => rfl) (fun vs H Q E h => by obtain ⟨_, _, _, _, _, _, _, z, _⟩ := h; exact absurd z (Nat.not_lt_zero _)) (fun k C f fd F => ok__law_handed k C F B C__law_draw) 3
  have C__law_shift : Cal l.prog w K mg base (3 + 0) "_law_shift" (sp__law_shift K 3) := cal_rec (ps := ["_law_program"]) 0 (sp := sp__law_shift K) D__law_shift (fun _ _ _ _ _ _ us hl => match us, hl with | [_], _ => rfl) (fun vs H Q E h => by obtain ⟨_, _, _, _, z, _⟩ := h; exact absurd z (Nat.not_lt_zero _)) (fun k C f fd F => ok__law_shift k C F B) 3
  have C__law_executed : Cal l.prog w K mg base (3 + 0) "_law_executed" (sp__law_executed K 3) := cal_rec (ps := ["_law_program"]) 0 (sp := sp__law_executed K) D__law_executed (fun _ _ _ _ _ _ us hl => match us, hl with | [_], _ => rfl) (fun vs H Q E h => by obtain ⟨_, _, _, _, z, _⟩ := h; exact absurd z (Nat.not_lt_zero _)) (fun k C f fd F => ok__law_executed k C F B) 3
  have C__law_full_program : Cal l.prog w K mg base 3 "_law_full_program" (sp__law_full_programR K) := cal_of (ps := ["_law_pen_here"]) D__law_full_program (fun _ _ _ _ _ _ us hl => match us, hl with | [_], _ => rfl) fun f fd F => ok__law_full_program F B C__law_draw C__law_pick C__law_integer
  have C__law_terms : Cal l.prog w K mg base (3 + 3) "_law_terms" (sp__law_termsN K 3) := cal_rec (ps := ["_law_program"]) 3 (sp := sp__law_termsN K) D__law_terms (fun _ _ _ _ _ _ us hl => match us, hl with | [_], _ => rfl) (fun vs H Q E h => by obtain ⟨_, _, _, _, z, _⟩ := h; exact absurd z (Nat.not_lt_zero _)) (fun k C f fd F => ok__law_terms k C F B C__law_shift) 3
  have C__law_outcome : Cal l.prog w K mg base 5 "_law_outcome" (sp__law_outcome K) := cal_of (ps := ["_law_prime_here", "_law_program"]) D__law_outcome (fun _ _ _ _ _ _ us hl => match us, hl with | [_, _], _ => rfl) fun f fd F => ok__law_outcome F B (Z) (Y) C_effect_of
  have C__law_near_limit : Cal l.prog w K mg base 3 "_law_near_limit" (sp__law_near_limit K) := cal_of (ps := ["_law_pen_here"]) D__law_near_limit (fun _ _ _ _ _ _ us hl => match us, hl with | [_], _ => rfl) fun f fd F => ok__law_near_limit F B C__law_draw C__law_integer
  have C__law_idle : Cal l.prog w K mg base 3 "_law_idle" (sp__law_near_limit K) := cal_of (ps := ["_law_pen_here"]) D__law_idle (fun _ _ _ _ _ _ us hl => match us, hl with | [_], _ => rfl) fun f fd F => ok__law_idle F B C__law_draw C__law_pick
  have C__law_spread : Cal l.prog w K mg base 1 "_law_spread" (sp__law_spread K) := cal_of (ps := ["_law_offset", "_law_rounds"]) D__law_spread (fun _ _ _ _ _ _ us hl => match us, hl with | [_, _], _ => rfl) fun f fd F => ok__law_spread F B
  exact law_ok F B C__law_pen C__law_prime C__law_near_limit C__law_idle C__law_full_program C__law_handed C__law_executed C__law_terms C__law_spread C__law_normal C__law_shift C__law_outcome
end DR
open PySem PySem.W PyProof.Rows
set_option maxRecDepth 100000 in
set_option maxHeartbeats 0 in
theorem PySem.Challenge.cw_dialroad_k28_limit_of_executed_instructi_holds : PySem.Challenge.rw_dialroad_k28_limit_of_executed_instructi.Holds := by
  w_on; o_law; k_head; (case hw => w_witness2)
  k_fill
  refine DR.walk_kept (l := PySem.Challenge.rw_dialroad_k28_limit_of_executed_instructi) (sp := DR.sp_law) (x := "_law_script") rfl rfl (fun w h Y => PySem.W.kIn_of Y) ?F fun K H a ns hl hS => ⟨a, ns, rfl, hS, hl, fun _ => rfl⟩
  case F =>
    intro w mg fa h KX G hmg
    refine' DR.all_mk hmg ⟨PySem.W.mg_none_of KX G ?z_tuple, PySem.W.mg_none_of KX G ?z_sorted, PySem.W.mg_none_of KX G ?z_range, PySem.W.mg_none_of KX G ?z_list, PySem.W.mg_none_of KX G ?z_len, PySem.W.mg_none_of KX G ?z_abs, PySem.W.mg_none_of KX G ?z_repr, PySem.W.mg_none_of KX G ?z_int, PySem.W.mg_none_of KX G ?z_bool, PySem.W.mg_none_of KX G ?z_dict, PySem.W.mg_none_of KX G ?z_min, PySem.W.mg_none_of KX G ?z_max, PySem.W.mg_none_of KX G ?z_zip, PySem.W.mg_none_of KX G ?z_all, PySem.W.mg_none_of KX G ?z_isinstance, PySem.W.mg_none_of KX G ?z_sum, PySem.W.mg_none_of KX G ?z_any, PySem.W.mg_none_of KX G ?z_str, PySem.W.mg_none_of KX G ?z_set⟩ ?D_from_sums ?D_executed ?D_unrolled ?D_effect_of ?D__law_pen ?D__law_draw ?D__law_pick ?D__law_prime ?D__law_integer ?D__law_normal ?D__law_handed ?D__law_shift ?D__law_executed ?D__law_full_program ?D__law_terms ?D__law_outcome ?D__law_near_limit ?D__law_idle ?D__law_spread ?G_LONGEST_RUN ?ZY ?D_law
    (case G_LONGEST_RUN => refine' ⟨?u0, PySem.W.mg_of KX G ?gz0, ?gy0⟩; (case gz0 => k_is); (case gy0 => exact ⟨_, rfl⟩))
    (case ZY => refine' ⟨?C, ?CD, ⟨PySem.W.mg_of KX G ?z1, ⟨PySem.F.excBase_ArithmeticError, PySem.F.store_ArithmeticError, ?i1, ?i2, ⟨?o1, ?o2⟩, ⟨?s1, ?s2, ?s3⟩, ?b1, ?t1⟩, ?n1, ⟨?fI, _, ?f1, ?f2, fun_mk (st := DR.s___init_T) ?l1 ?l2 ?l3⟩⟩, ⟨PySem.W.mg_none_of KX G ?a1, PySem.W.mg_none_of KX G ?a2, PySem.W.mg_none_of KX G ?a3, PySem.W.mg_of KX G ?a4, ?e5, ?e6, ⟨?c1, ?c2, ?c3, ?c4, ?c5, ?c6, ?c7, ?c8⟩, ?e7⟩⟩; (case z1 => k_is); (case i1 => kx_is); (case i2 => kx_is); (case o1 => k_is); (case o2 => k_is); (case s1 => k_is); (case s2 => k_is); (case s3 => k_is); (case b1 => k_is); (case t1 => k_is); (case n1 => k_is); (case f1 => k_is); (case f2 => k_is); (case l1 => k_is); (case l2 => k_is); (case l3 => k_is); (case a1 => k_is); (case a2 => k_is); (case a3 => k_is); (case a4 => k_is); (case e5 => kit_is); (case e6 => kit_is); (case e7 => kts_exm); (case c1 => k_is); (case c2 => k_is); (case c3 => k_is); (case c4 => k_is); (case c5 => k_is); (case c6 => k_is); (case c7 => k_is); (case c8 => k_is))
    (case z_tuple => k_is)
    (case z_sorted => k_is)
    (case z_range => k_is)
    (case z_list => k_is)
    (case z_len => k_is)
    (case z_abs => k_is)
    (case z_repr => k_is)
    (case z_int => k_is)
    (case z_bool => k_is)
    (case z_dict => k_is)
    (case z_min => k_is)
    (case z_max => k_is)
    (case z_zip => k_is)
    (case z_all => k_is)
    (case z_isinstance => k_is)
    (case z_sum => k_is)
    (case z_any => k_is)
    (case z_str => k_is)
    (case z_set => k_is)
    (case D_from_sums => refine' DR.df_mk KX G ?a ?l ?c ?k; (case a => k_is); (case l => k_is); (case c => k_is); (case k => k_is))
    (case D_executed => refine' DR.df_mk KX G ?a ?l ?c ?k; (case a => k_is); (case l => k_is); (case c => k_is); (case k => k_is))
    (case D_unrolled => refine' DR.df_mk KX G ?a ?l ?c ?k; (case a => k_is); (case l => k_is); (case c => k_is); (case k => k_is))
    (case D_effect_of => refine' DR.df_mk KX G ?a ?l ?c ?k; (case a => k_is); (case l => k_is); (case c => k_is); (case k => k_is))
    (case D__law_pen => refine' DR.df_mk KX G ?a ?l ?c ?k; (case a => k_is); (case l => k_is); (case c => k_is); (case k => k_is))
    (case D__law_draw => refine' DR.df_mk KX G ?a ?l ?c ?k; (case a => k_is); (case l => k_is); (case c => k_is); (case k => k_is))
    (case D__law_pick => refine' DR.df_mk KX G ?a ?l ?c ?k; (case a => k_is); (case l => k_is); (case c => k_is); (case k => k_is))
    (case D__law_prime => refine' DR.df_mk KX G ?a ?l ?c ?k; (case a => k_is); (case l => k_is); (case c => k_is); (case k => k_is))
    (case D__law_integer => refine' DR.df_mk KX G ?a ?l ?c ?k; (case a => k_is); (case l => k_is); (case c => k_is); (case k => k_is))
    (case D__law_normal => refine' DR.df_mk KX G ?a ?l ?c ?k; (case a => k_is); (case l => k_is); (case c => k_is); (case k => k_is))
    (case D__law_handed => refine' DR.df_mk KX G ?a ?l ?c ?k; (case a => k_is); (case l => k_is); (case c => k_is); (case k => k_is))
    (case D__law_shift => refine' DR.df_mk KX G ?a ?l ?c ?k; (case a => k_is); (case l => k_is); (case c => k_is); (case k => k_is))
    (case D__law_executed => refine' DR.df_mk KX G ?a ?l ?c ?k; (case a => k_is); (case l => k_is); (case c => k_is); (case k => k_is))
    (case D__law_full_program => refine' DR.df_mk KX G ?a ?l ?c ?k; (case a => k_is); (case l => k_is); (case c => k_is); (case k => k_is))
    (case D__law_terms => refine' DR.df_mk KX G ?a ?l ?c ?k; (case a => k_is); (case l => k_is); (case c => k_is); (case k => k_is))
    (case D__law_outcome => refine' DR.df_mk KX G ?a ?l ?c ?k; (case a => k_is); (case l => k_is); (case c => k_is); (case k => k_is))
    (case D__law_near_limit => refine' DR.df_mk KX G ?a ?l ?c ?k; (case a => k_is); (case l => k_is); (case c => k_is); (case k => k_is))
    (case D__law_idle => refine' DR.df_mk KX G ?a ?l ?c ?k; (case a => k_is); (case l => k_is); (case c => k_is); (case k => k_is))
    (case D__law_spread => refine' DR.df_mk KX G ?a ?l ?c ?k; (case a => k_is); (case l => k_is); (case c => k_is); (case k => k_is))
    (case D_law => refine' DR.df_mk KX G ?a ?l ?c ?k; (case a => k_is); (case l => k_is); (case c => k_is); (case k => k_is))
